/- The law 'RefineEncodes'. -/
import Derived.Test.YtmfpoabhmpljgaaKRo
namespace Go.Proofs.Ytmfpoabhmpljgaa
open Go.RowKit

theorem capS (n g : Nat) (h : n ≤ 1000) : CapOK (.slice (some ⟨g, 0, none⟩) n (n + 7)) := by
  intro ao n' c' e
  simp only [Value.slice.injEq] at e
  obtain ⟨_, rfl, rfl⟩ := e
  exact ⟨by omega, by unfold maxLen; omega⟩

set_option maxRecDepth 100000 in
set_option maxHeartbeats 8000000 in
theorem encodes8_any (ao : Option Addr) (n cp : Nat) (A : Nat → Ak) (w : World) (hA : AsksAt w ao n A) :
    Calls Try.prog 3 #[.slice ao n cp] w fun e w' => e = .returned (.bool true) ∧ Fr (fun _ => False) w w' := by
  have HA : Hid (∀ w', Fr (fun _ => False) w w' → AsksAt w' ao n A) := fun w' f => hA.kept f
  have hn := hA.len
  clear hA
  go_enter Try.func3, Try.ntmps3
  go_wp2_with fail
  go_loopw [3, 4, 5, 6, 7, 8, 9] (fun a _ _ _ _ _ _ wr => ∃ i : Nat, i ≤ 6 ∧ a = .int .i64 i ∧ Fr (fun _ => False) w wr) (fun a _ _ _ _ _ _ _ => 6 - (intOf a).toNat)
  case atStart => exact ⟨0, by omega, rfl, Fr.refl _ _⟩
  case round =>
    obtain ⟨i, hi, rfl, hfr⟩ := hrel
    have HFr : Hid (Fr (fun _ => False) w wr) := hfr
    clear hfr
    by_cases hin : i < n
    · by_cases hi6 : i < 6
      · have hdn : decide ((i : Int) < (n : Int)) = true := decide_eq_true (by omega)
        have hd6 : decide ((i : Int) < 6) = true := decide_eq_true (by omega)
        obtain ⟨b, off, hao, -⟩ := (HA.out wr HFr.out).cells (by omega)
        subst hao
        have HC : Hid (∀ w', Fr (fun _ => False) wr w' → (w'.cell? ⟨b, off + i * 8, none⟩ = some (.int .i64 (A i).x) ∧ w'.cell? ⟨b, off + i * 8 + 1, none⟩ = some (.int .i64 (A i).y) ∧ w'.cell? ⟨b, off + i * 8 + 2, none⟩ = some (A i).v ∧ w'.cell? ⟨b, off + i * 8 + 3, none⟩ = some (.int .i64 (A i).rx) ∧ w'.cell? ⟨b, off + i * 8 + 4, none⟩ = some (.int .i64 (A i).ry) ∧ w'.cell? ⟨b, off + i * 8 + 5, none⟩ = some (A i).rv ∧ w'.cell? ⟨b, off + i * 8 + 6, none⟩ = some (.int .i64 (A i).dx) ∧ w'.cell? ⟨b, off + i * 8 + 7, none⟩ = some (.int .i64 (A i).dy)) ∧ AkOK w' (A i)) := fun w' f => by
          have h := HA.out w' (HFr.out.trans f (fun _ _ h => h))
          obtain ⟨b', off', e, hc⟩ := h.cells (by omega)
          simp only [Option.some.injEq, Addr.mk.injEq, and_true] at e
          obtain ⟨rfl, rfl⟩ := e
          exact ⟨hc i hin, h.ok i hin⟩
        obtain ⟨⟨c0, c1, c2, c3, c4, c5, c6, c7⟩, hak⟩ := HC.out wr (Fr.refl _ _)
        obtain ⟨a, Ha⟩ : ∃ a, Hid (a = A i) := ⟨_, rfl⟩
        rw [← Ha.out] at HC c0 c1 c2 c3 c4 c5 c6 c7 hak
        obtain ⟨x, y, v, l, rx, ry, rv, rl, dx, dy⟩ := a
        simp only [] at HC c0 c1 c2 c3 c4 c5 c6 c7
        obtain ⟨va, vc, hvv, -, -⟩ := hak.b.hv
        obtain ⟨ra, rc, hvr, -, -⟩ := hak.r.hv
        obtain ⟨n0, HN0⟩ : ∃ n0, Hid (n0 = l.length) := ⟨_, rfl⟩
        obtain ⟨n1, HN1⟩ : ∃ n1, Hid (n1 = rl.length) := ⟨_, rfl⟩
        simp only [] at hvv hvr
        rw [← HN0.out] at hvv
        rw [← HN1.out] at hvr
        subst hvv
        subst hvr
        have HLI : Hid (∀ w', Fr (fun _ => False) wr w' → Calls Try.prog 9 #[.agg #[.int .i64 x, .int .i64 y, .slice va n0 vc]] w' fun e w'' => e = .returned (.bool (lightB x y l)) ∧ Fr (fun _ => False) w' w'') := fun w' f => by
          have h := (HC.out w' f).2.b
          exact light_any x y _ l w' h.hx h.hy h.hv h.hc h.hlt
        have HLR : Hid (∀ w', Fr (fun _ => False) wr w' → Calls Try.prog 9 #[.agg #[.int .i64 rx, .int .i64 ry, .slice ra n1 rc]] w' fun e w'' => e = .returned (.bool (lightB rx ry rl)) ∧ Fr (fun _ => False) w' w'') := fun w' f => by
          have h := (HC.out w' f).2.r
          exact light_any rx ry _ rl w' h.hx h.hy h.hv h.hc h.hlt
        clear hak
        go_wp2_with fail
        refine (HLI.out _ (Fr.refl _ _)).mono ?_
        rintro e w1 ⟨rfl, hf1⟩
        have HF1 : Hid (Fr (fun _ => False) wr w1) := hf1
        clear hf1 c0 c1 c2 c3 c4 c5 c6 c7
        cases hlb : lightB x y l
        · go_wp2_with fail
          exact ⟨⟨i + 1, by omega, by rw [Int.natCast_add]; rfl, HFr.out.trans HF1.out (fun _ _ h => h)⟩, by simp only [intOf]; omega⟩
        · obtain ⟨⟨c0, c1, c2, c3, c4, c5, c6, c7⟩, -⟩ := HC.out w1 HF1.out
          go_wp2_with fail
          refine (HLR.out _ HF1.out).mono ?_
          rintro e w2 ⟨rfl, hf2⟩
          have HF2 : Hid (Fr (fun _ => False) wr w2) := HF1.out.trans hf2 (fun _ _ h => h)
          clear hf2 c0 c1 c2 c3 c4 c5 c6 c7
          cases hlr : lightB rx ry rl
          · go_wp2_with fail
            exact ⟨⟨i + 1, by omega, by rw [Int.natCast_add]; rfl, HFr.out.trans HF2.out (fun _ _ h => h)⟩, by simp only [intOf]; omega⟩
          · have hl1 : l.length ≤ 1000 := by
              unfold lightB at hlb
              simp only [Bool.and_eq_true, decide_eq_true_eq] at hlb
              exact hlb.1
            have hl2 : rl.length ≤ 1000 := by
              unfold lightB at hlr
              simp only [Bool.and_eq_true, decide_eq_true_eq] at hlr
              exact hlr.1
            have hnl : n0 ≤ 1000 := by rw [HN0.out]; exact hl1
            have hnl1 : n1 ≤ 1000 := by rw [HN1.out]; exact hl2
            have HLe : Hid (∀ w', Fr (fun _ => False) wr w' → Calls Try.prog 10 #[.agg #[.int .i64 x, .int .i64 y, .slice va n0 vc]] w' fun e w'' => ∃ g, e = .returned (.agg #[.int .i64 x, .int .i64 y, .slice (some ⟨g, 0, none⟩) n0 (n0 + 7)]) ∧ Lent w'' g l ∧ w'.heap.size ≤ g ∧ Fr (fun _ => False) w' w'') := fun w' f => by
              have h := (HC.out w' f).2.b
              have h2 := lendB_any x y _ l w' h.hv h.hn hl1
              rw [← HN0.out] at h2
              exact h2
            have HLe2 : Hid (∀ w', Fr (fun _ => False) wr w' → Calls Try.prog 10 #[.agg #[.int .i64 rx, .int .i64 ry, .slice ra n1 rc]] w' fun e w'' => ∃ h, e = .returned (.agg #[.int .i64 rx, .int .i64 ry, .slice (some ⟨h, 0, none⟩) n1 (n1 + 7)]) ∧ Lent w'' h rl ∧ w'.heap.size ≤ h ∧ Fr (fun _ => False) w' w'') := fun w' f => by
              have h := (HC.out w' f).2.r
              have h2 := lendB_any rx ry _ rl w' h.hv h.hn hl2
              rw [← HN1.out] at h2
              exact h2
            have HEn : Hid (∀ (w' : World) (g h : Nat), Lent w' g l → Lent w' h rl → Calls Try.prog 11 #[.agg #[.int .i64 x, .int .i64 y, .slice (some ⟨g, 0, none⟩) n0 (n0 + 7)], .agg #[.int .i64 rx, .int .i64 ry, .slice (some ⟨h, 0, none⟩) n1 (n1 + 7)], .int .i64 dx, .int .i64 dy] w' fun e w'' => ∃ vf, e = .returned (.tuple #[vf, .int .i64 (encE x y l rx ry rl dx dy)]) ∧ SeenAt w'' vf (encB x y l rx ry rl dx dy) ∧ (∀ k, vf.ownBlock = some k → w'.heap.size ≤ k) ∧ Fr (fun _ => False) w' w'') := fun w' g h hl hr => by
              have k := (HC.out wr (Fr.refl _ _)).2
              have s1 := hl.seen (by omega)
              have s2 := hr.seen (by omega)
              rw [HN0.out, HN1.out]
              exact rfencode_all x y _ l rx ry _ rl dx dy w' ⟨k.b.hx, k.b.hy, s1, capS _ _ (by have := HN0.out; omega), k.b.hlt⟩ ⟨k.r.hx, k.r.hy, s2, capS _ _ (by have := HN1.out; omega), k.r.hlt⟩
            have HRn : Hid (∀ w', Fr (fun _ => False) wr w' → Calls Try.prog 12 #[.agg #[.int .i64 x, .int .i64 y, .slice va n0 vc], .agg #[.int .i64 rx, .int .i64 ry, .slice ra n1 rc], .int .i64 dx, .int .i64 dy] w' fun e w'' => ∃ vf, e = .returned (.tuple #[vf, .int .i64 (encE x y l rx ry rl dx dy)]) ∧ SeenAt w'' vf (encB x y l rx ry rl dx dy) ∧ (∀ k, vf.ownBlock = some k → w'.heap.size ≤ k) ∧ Fr (fun _ => False) w' w'') := fun w' f => by
              have k := (HC.out w' f).2
              exact rrencode_all x y _ l rx ry _ rl dx dy w' k.b.s k.r.s
            have HBk : Hid (∀ (w' : World) (g : Nat), Fr (fun _ => False) wr w' → Lent w' g l → Calls Try.prog 13 #[.agg #[.int .i64 x, .int .i64 y, .slice (some ⟨g, 0, none⟩) n0 (n0 + 7)], .agg #[.int .i64 x, .int .i64 y, .slice va n0 vc]] w' fun e w'' => e = .returned (.bool true) ∧ Fr (fun k => k = g) w' w'') := fun w' g f hl => by
              have k := (HC.out w' f).2.b
              have h2 := backB_any x y g _ l w' hl1 hl k.hv
              rw [← HN0.out] at h2
              exact h2
            have HBk2 : Hid (∀ (w' : World) (h : Nat), MpOK w' rx ry (.slice ra n1 rc) rl → Lent w' h rl → Calls Try.prog 13 #[.agg #[.int .i64 rx, .int .i64 ry, .slice (some ⟨h, 0, none⟩) n1 (n1 + 7)], .agg #[.int .i64 rx, .int .i64 ry, .slice ra n1 rc]] w' fun e w'' => e = .returned (.bool true) ∧ Fr (fun k => k = h) w' w'') := fun w' h k hl => by
              have h2 := backB_any rx ry h _ rl w' hl2 hl k.hv
              rw [← HN1.out] at h2
              exact h2
            generalize encE x y l rx ry rl dx dy = er at *
            generalize encB x y l rx ry rl dx dy = B at *
            have HCc : Hid (∀ w', Fr (fun _ => False) wr w' → w'.cell? ⟨b, off + i * 8, none⟩ = some (.int .i64 x) ∧ w'.cell? ⟨b, off + i * 8 + 1, none⟩ = some (.int .i64 y) ∧ w'.cell? ⟨b, off + i * 8 + 2, none⟩ = some (.slice va n0 vc) ∧ w'.cell? ⟨b, off + i * 8 + 3, none⟩ = some (.int .i64 rx) ∧ w'.cell? ⟨b, off + i * 8 + 4, none⟩ = some (.int .i64 ry) ∧ w'.cell? ⟨b, off + i * 8 + 5, none⟩ = some (.slice ra n1 rc) ∧ w'.cell? ⟨b, off + i * 8 + 6, none⟩ = some (.int .i64 dx) ∧ w'.cell? ⟨b, off + i * 8 + 7, none⟩ = some (.int .i64 dy)) := fun w' f => (HC.out w' f).1
            have HCk : Hid (∀ w', Fr (fun _ => False) wr w' → MpOK w' rx ry (.slice ra n1 rc) rl) := fun w' f => (HC.out w' f).2.r
            clear HC HLI HLR hlb hlr hl1 hl2
            obtain ⟨c0, c1, c2, c3, c4, c5, c6, c7⟩ := HCc.out _ HF2.out
            go_wp2_with fail
            refine (HLe.out _ HF2.out).mono ?_
            rintro e w3 ⟨g, rfl, hl3, hg3, hf3⟩
            have HF3 : Hid (Fr (fun _ => False) wr (w3.alloc (.cells #[.int .i64 x, .int .i64 y, .slice (some ⟨g, 0, none⟩) n0 (n0 + 7)] 26))) := (HF2.out.trans hf3 (fun _ _ h => h)).alloc _
            have HL3 : Hid (Lent (w3.alloc (.cells #[.int .i64 x, .int .i64 y, .slice (some ⟨g, 0, none⟩) n0 (n0 + 7)] 26)) g l) := hl3.kept ((Fr.refl (fun _ => False) w3).alloc _) (fun h => h)
            have HX3 : Hid ((w3.alloc (.cells #[.int .i64 x, .int .i64 y, .slice (some ⟨g, 0, none⟩) n0 (n0 + 7)] 26)).heap[w3.heap.size]? = some (.cells #[.int .i64 x, .int .i64 y, .slice (some ⟨g, 0, none⟩) n0 (n0 + 7)] 26 (0, 0))) := heap_alloc_new w3 _
            have HG3 : Hid (wr.heap.size ≤ g ∧ g < w3.heap.size) := ⟨by have := HF2.out.size; omega, hl3.lt⟩
            clear hl3 hg3 hf3 c0 c1 c2 c3 c4 c5 c6 c7
            obtain ⟨c0, c1, c2, c3, c4, c5, c6, c7⟩ := HCc.out _ HF3.out
            go_wp2_with fail
            generalize w3.alloc (.cells #[.int .i64 x, .int .i64 y, .slice (some ⟨g, 0, none⟩) n0 (n0 + 7)] 26) = wA at *
            refine (HLe2.out _ HF3.out).mono ?_
            rintro e w4 ⟨h, rfl, hl4, hg4, hf4⟩
            have HAB : Hid (Fr (fun _ => False) wA (w4.alloc (.cells #[.int .i64 rx, .int .i64 ry, .slice (some ⟨h, 0, none⟩) n1 (n1 + 7)] 26))) := hf4.alloc _
            have HF4 : Hid (Fr (fun _ => False) wr (w4.alloc (.cells #[.int .i64 rx, .int .i64 ry, .slice (some ⟨h, 0, none⟩) n1 (n1 + 7)] 26))) := HF3.out.trans HAB.out (fun _ _ h => h)
            have HL4 : Hid (Lent (w4.alloc (.cells #[.int .i64 rx, .int .i64 ry, .slice (some ⟨h, 0, none⟩) n1 (n1 + 7)] 26)) h rl) := hl4.kept ((Fr.refl (fun _ => False) w4).alloc _) (fun h => h)
            have HX4 : Hid ((w4.alloc (.cells #[.int .i64 rx, .int .i64 ry, .slice (some ⟨h, 0, none⟩) n1 (n1 + 7)] 26)).heap[w4.heap.size]? = some (.cells #[.int .i64 rx, .int .i64 ry, .slice (some ⟨h, 0, none⟩) n1 (n1 + 7)] 26 (0, 0))) := heap_alloc_new w4 _
            have HG4 : Hid (w3.heap.size < wA.heap.size ∧ wA.heap.size ≤ h ∧ h < w4.heap.size) := ⟨lt_of_block HX3.out, hg4, hl4.lt⟩
            clear hl4 hg4 hf4 c0 c1 c2 c3 c4 c5 c6 c7
            go_wp2_with fail
            generalize hwB : w4.alloc (.cells #[.int .i64 rx, .int .i64 ry, .slice (some ⟨h, 0, none⟩) n1 (n1 + 7)] 26) = wB at *
            clear hwB
            obtain ⟨bx, HBx⟩ : ∃ bx, Hid (bx = w3.heap.size) := ⟨_, rfl⟩
            obtain ⟨bY, HBy⟩ : ∃ bY, Hid (bY = w4.heap.size) := ⟨_, rfl⟩
            rw [← HBx.out] at HX3 ⊢
            rw [← HBy.out] at HX4 ⊢
            have HB2 : Hid (b < wr.heap.size) := seen_lt (HCc.out wr (Fr.refl _ _)).1
            have HSzB : Hid (w4.heap.size < wB.heap.size) := by have := lt_of_block HX4.out; have := HBy.out; show _ < _; omega
            have HCX : Hid (∀ w' (T : Nat → Prop), Fr T wB w' → (∀ k, T k → k = g ∨ k = h) → w'.cell? ⟨bx, 0, none⟩ = some (.int .i64 x) ∧ w'.cell? ⟨bx, 1, none⟩ = some (.int .i64 y) ∧ w'.cell? ⟨bx, 2, none⟩ = some (.slice (some ⟨g, 0, none⟩) n0 (n0 + 7)) ∧ w'.cell? ⟨bY, 0, none⟩ = some (.int .i64 rx) ∧ w'.cell? ⟨bY, 1, none⟩ = some (.int .i64 ry) ∧ w'.cell? ⟨bY, 2, none⟩ = some (.slice (some ⟨h, 0, none⟩) n1 (n1 + 7)) ∧ w'.cell? ⟨b, off + i * 8, none⟩ = some (.int .i64 x) ∧ w'.cell? ⟨b, off + i * 8 + 1, none⟩ = some (.int .i64 y) ∧ w'.cell? ⟨b, off + i * 8 + 2, none⟩ = some (.slice va n0 vc) ∧ w'.cell? ⟨b, off + i * 8 + 3, none⟩ = some (.int .i64 rx) ∧ w'.cell? ⟨b, off + i * 8 + 4, none⟩ = some (.int .i64 ry) ∧ w'.cell? ⟨b, off + i * 8 + 5, none⟩ = some (.slice ra n1 rc) ∧ w'.cell? ⟨b, off + i * 8 + 6, none⟩ = some (.int .i64 dx) ∧ w'.cell? ⟨b, off + i * 8 + 7, none⟩ = some (.int .i64 dy)) := fun w' T f hT => by
              have e1 := HBx.out
              have e2 := HBy.out
              have e3 := HB2.out
              have e4 := HG3.out
              have e5 := HG4.out
              have e6 := HF4.out.size
              have x1 : w'.heap[bx]? = some (.cells #[.int .i64 x, .int .i64 y, .slice (some ⟨g, 0, none⟩) n0 (n0 + 7)] 26 (0, 0)) := by
                rw [f.block _ (by have := HSzB.out; omega) (fun t => by have := hT _ t; omega)]
                exact blkOld HAB.out HX3.out
              have x2 : w'.heap[bY]? = some (.cells #[.int .i64 rx, .int .i64 ry, .slice (some ⟨h, 0, none⟩) n1 (n1 + 7)] 26 (0, 0)) := by
                rw [f.block _ (by have := HSzB.out; omega) (fun t => by have := hT _ t; omega)]
                exact HX4.out
              obtain ⟨a0, a1, a2, _⟩ := cell_of_three x1
              obtain ⟨d0, d1, d2, _⟩ := cell_of_three x2
              obtain ⟨c0, c1, c2, c3, c4, c5, c6, c7⟩ := HCc.out wB HF4.out
              refine ⟨a0, a1, a2, d0, d1, d2, ?_, ?_, ?_, ?_, ?_, ?_, ?_, ?_⟩ <;> rw [f.cellEq (by first | exact seen_lt c0) (fun t => by have := hT _ t; omega)] <;> assumption
            have hix : (0 : Int) ≤ (i : Int) := by omega
            have hix2 : (i : Int) < (n : Int) := by omega
            go_region_held3 (fun w' => w'.cell? ⟨bx, 0, none⟩ = some (.int .i64 x) ∧ w'.cell? ⟨bx, 1, none⟩ = some (.int .i64 y) ∧ w'.cell? ⟨bx, 2, none⟩ = some (.slice (some ⟨g, 0, none⟩) n0 (n0 + 7)) ∧ w'.cell? ⟨bY, 0, none⟩ = some (.int .i64 rx) ∧ w'.cell? ⟨bY, 1, none⟩ = some (.int .i64 ry) ∧ w'.cell? ⟨bY, 2, none⟩ = some (.slice (some ⟨h, 0, none⟩) n1 (n1 + 7)) ∧ w'.cell? ⟨b, off + i * 8, none⟩ = some (.int .i64 x) ∧ w'.cell? ⟨b, off + i * 8 + 1, none⟩ = some (.int .i64 y) ∧ w'.cell? ⟨b, off + i * 8 + 2, none⟩ = some (.slice va n0 vc) ∧ w'.cell? ⟨b, off + i * 8 + 3, none⟩ = some (.int .i64 rx) ∧ w'.cell? ⟨b, off + i * 8 + 4, none⟩ = some (.int .i64 ry) ∧ w'.cell? ⟨b, off + i * 8 + 5, none⟩ = some (.slice ra n1 rc) ∧ w'.cell? ⟨b, off + i * 8 + 6, none⟩ = some (.int .i64 dx) ∧ w'.cell? ⟨b, off + i * 8 + 7, none⟩ = some (.int .i64 dy)) (exact HCX.out _ (fun _ => False) (by repeat (first | with_reducible exact Fr.refl _ _ | with_reducible refine Fr.drew ?_ | with_reducible refine Fr.trans ?_ hf5 (fun _ _ hh => hh))) (fun _ t => t.elim)) (first | (go_at_call 11; refine (HEn.out _ g h ((HL3.out.kept HAB.out (fun h => h)).kept (S := fun _ => False) (by repeat (first | with_reducible exact Fr.refl _ _ | with_reducible refine Fr.drew ?_)) (fun h => h)) (HL4.out.kept (S := fun _ => False) (by repeat (first | with_reducible exact Fr.refl _ _ | with_reducible refine Fr.drew ?_)) (fun h => h))).mono ?_; rintro e w5 ⟨vf, rfl, hs5, ho5, hf5⟩))
            have HF5 : Hid (Fr (fun _ => False) wB w5) := (Fr.refl _ _).drew.trans hf5 (fun _ _ h => h)
            have HS5 : Hid (∀ w' (T : Nat → Prop), Fr T w5 w' → (∀ k, T k → k = g ∨ k = h) → SeenAt w' vf B) := fun w' T f hT => hs5.kept f (fun k hk e => by
              have h1 := hT k e
              have h2 : wB.heap.size ≤ k := ho5 k hk
              have e4 := HG3.out
              have e5 := HG4.out
              have e6 := HSzB.out
              omega)
            obtain ⟨fo, fc, hvf, -, -⟩ := hs5
            obtain ⟨bl, HBl⟩ : ∃ bl, Hid (bl = B.length) := ⟨_, rfl⟩
            rw [← HBl.out] at hvf
            subst hvf
            clear hf5 ho5
            go_wp2_with fail
            go_region_held3 (fun w' => w'.cell? ⟨bx, 0, none⟩ = some (.int .i64 x) ∧ w'.cell? ⟨bx, 1, none⟩ = some (.int .i64 y) ∧ w'.cell? ⟨bx, 2, none⟩ = some (.slice (some ⟨g, 0, none⟩) n0 (n0 + 7)) ∧ w'.cell? ⟨bY, 0, none⟩ = some (.int .i64 rx) ∧ w'.cell? ⟨bY, 1, none⟩ = some (.int .i64 ry) ∧ w'.cell? ⟨bY, 2, none⟩ = some (.slice (some ⟨h, 0, none⟩) n1 (n1 + 7)) ∧ w'.cell? ⟨b, off + i * 8, none⟩ = some (.int .i64 x) ∧ w'.cell? ⟨b, off + i * 8 + 1, none⟩ = some (.int .i64 y) ∧ w'.cell? ⟨b, off + i * 8 + 2, none⟩ = some (.slice va n0 vc) ∧ w'.cell? ⟨b, off + i * 8 + 3, none⟩ = some (.int .i64 rx) ∧ w'.cell? ⟨b, off + i * 8 + 4, none⟩ = some (.int .i64 ry) ∧ w'.cell? ⟨b, off + i * 8 + 5, none⟩ = some (.slice ra n1 rc) ∧ w'.cell? ⟨b, off + i * 8 + 6, none⟩ = some (.int .i64 dx) ∧ w'.cell? ⟨b, off + i * 8 + 7, none⟩ = some (.int .i64 dy)) (exact HCX.out _ (fun _ => False) (HF5.out.trans (by repeat (first | with_reducible exact Fr.refl _ _ | with_reducible refine Fr.drew ?_ | with_reducible refine Fr.trans ?_ hf6 (fun _ _ hh => hh))) (fun _ _ h => h)) (fun _ t => t.elim)) (first | (go_at_call 12; refine (HRn.out _ (HF4.out.trans (HF5.out.trans (by repeat (first | with_reducible exact Fr.refl _ _ | with_reducible refine Fr.drew ?_)) (fun _ _ h => h)) (fun _ _ h => h))).mono ?_; rintro e w6 ⟨vq, rfl, hs6, ho6, hf6⟩))
            have HF6 : Hid (Fr (fun _ => False) w5 w6) := (Fr.refl _ _).drew.trans hf6 (fun _ _ h => h)
            have HFB6 : Hid (Fr (fun _ => False) wB w6) := HF5.out.trans HF6.out (fun _ _ h => h)
            have HS6 : Hid (∀ w' (T : Nat → Prop), Fr T w6 w' → (∀ k, T k → k = g ∨ k = h) → SeenAt w' vq B) := fun w' T f hT => hs6.kept f (fun k hk e => by
              have h1 := hT k e
              have h2 : w5.heap.size ≤ k := ho6 k hk
              have e4 := HG3.out
              have e5 := HG4.out
              have e6 := HSzB.out
              have e7 := HF5.out.size
              omega)
            obtain ⟨qo, qc, hvq, -, -⟩ := hs6
            rw [← HBl.out] at hvq
            subst hvq
            clear hf6 ho6
            have HEq : Hid (∀ w', Fr (fun k => k = g ∨ k = h) w6 w' → Calls Try.prog 14 #[.slice fo bl fc, .slice qo bl qc] w' fun e w'' => e = .returned (.bool true) ∧ Fr (fun _ => False) w' w'') := fun w' f => by
              refine (eq_any _ _ B B w' (HS5.out w' _ ((HF6.out.mono (fun _ _ h => h.elim)).trans f (fun _ _ h => h)) (fun _ h => h)) (HS6.out w' _ f (fun _ h => h))).mono ?_
              rintro e w'' ⟨rfl, q, rfl⟩
              exact ⟨by simp, (Fr.refl _ _).drewN q⟩
            have HBk6 : Hid (∀ w', Fr (fun _ => False) w6 w' → Calls Try.prog 13 #[.agg #[.int .i64 x, .int .i64 y, .slice (some ⟨g, 0, none⟩) n0 (n0 + 7)], .agg #[.int .i64 x, .int .i64 y, .slice va n0 vc]] w' fun e w'' => e = .returned (.bool true) ∧ Fr (fun k => k = g) w' w'') := fun w' f => HBk.out w' g (HF4.out.trans (HFB6.out.trans f (fun _ _ h => h)) (fun _ _ h => h)) ((HL3.out.kept HAB.out (fun h => h)).kept (HFB6.out.trans f (fun _ _ h => h)) (fun h => h))
            have HBk7 : Hid (∀ w', Fr (fun k => k = g) w6 w' → Calls Try.prog 13 #[.agg #[.int .i64 rx, .int .i64 ry, .slice (some ⟨h, 0, none⟩) n1 (n1 + 7)], .agg #[.int .i64 rx, .int .i64 ry, .slice ra n1 rc]] w' fun e w'' => e = .returned (.bool true) ∧ Fr (fun k => k = h) w' w'') := fun w' f => by
              have e4 := HG3.out
              have e5 := HG4.out
              refine HBk2.out w' h ?_ (HL4.out.kept (S := fun k => k = g) ((HFB6.out.mono (fun _ _ h => h.elim)).trans f (fun _ _ h => h)) (by omega))
              have hk := HCk.out wr (Fr.refl _ _)
              have ff : Fr (fun k => k = g) wr w' := (HF4.out.mono (fun _ _ h => h.elim)).trans ((HFB6.out.mono (fun _ _ h => h.elim)).trans f (fun _ _ h => h)) (fun _ _ h => h)
              exact ⟨hk.hx, hk.hy, hk.hv.kept ff (fun k hkl e => by omega), hk.hc, hk.hn, hk.hlt⟩
            have HCX6 : Hid (∀ w', Fr (fun k => k = g ∨ k = h) w6 w' → w'.cell? ⟨bx, 0, none⟩ = some (.int .i64 x) ∧ w'.cell? ⟨bx, 1, none⟩ = some (.int .i64 y) ∧ w'.cell? ⟨bx, 2, none⟩ = some (.slice (some ⟨g, 0, none⟩) n0 (n0 + 7)) ∧ w'.cell? ⟨bY, 0, none⟩ = some (.int .i64 rx) ∧ w'.cell? ⟨bY, 1, none⟩ = some (.int .i64 ry) ∧ w'.cell? ⟨bY, 2, none⟩ = some (.slice (some ⟨h, 0, none⟩) n1 (n1 + 7)) ∧ w'.cell? ⟨b, off + i * 8, none⟩ = some (.int .i64 x) ∧ w'.cell? ⟨b, off + i * 8 + 1, none⟩ = some (.int .i64 y) ∧ w'.cell? ⟨b, off + i * 8 + 2, none⟩ = some (.slice va n0 vc) ∧ w'.cell? ⟨b, off + i * 8 + 3, none⟩ = some (.int .i64 rx) ∧ w'.cell? ⟨b, off + i * 8 + 4, none⟩ = some (.int .i64 ry) ∧ w'.cell? ⟨b, off + i * 8 + 5, none⟩ = some (.slice ra n1 rc) ∧ w'.cell? ⟨b, off + i * 8 + 6, none⟩ = some (.int .i64 dx) ∧ w'.cell? ⟨b, off + i * 8 + 7, none⟩ = some (.int .i64 dy)) := fun w' f => HCX.out w' (fun k => k = g ∨ k = h) ((HFB6.out.mono (fun _ _ h => h.elim)).trans f (fun _ _ h => h)) (fun _ t => t)
            have hee : (er != er) = false := by simp
            go_wp2_with fail
            go_region_held3 (fun w' => w'.cell? ⟨bx, 0, none⟩ = some (.int .i64 x) ∧ w'.cell? ⟨bx, 1, none⟩ = some (.int .i64 y) ∧ w'.cell? ⟨bx, 2, none⟩ = some (.slice (some ⟨g, 0, none⟩) n0 (n0 + 7)) ∧ w'.cell? ⟨bY, 0, none⟩ = some (.int .i64 rx) ∧ w'.cell? ⟨bY, 1, none⟩ = some (.int .i64 ry) ∧ w'.cell? ⟨bY, 2, none⟩ = some (.slice (some ⟨h, 0, none⟩) n1 (n1 + 7)) ∧ w'.cell? ⟨b, off + i * 8, none⟩ = some (.int .i64 x) ∧ w'.cell? ⟨b, off + i * 8 + 1, none⟩ = some (.int .i64 y) ∧ w'.cell? ⟨b, off + i * 8 + 2, none⟩ = some (.slice va n0 vc) ∧ w'.cell? ⟨b, off + i * 8 + 3, none⟩ = some (.int .i64 rx) ∧ w'.cell? ⟨b, off + i * 8 + 4, none⟩ = some (.int .i64 ry) ∧ w'.cell? ⟨b, off + i * 8 + 5, none⟩ = some (.slice ra n1 rc) ∧ w'.cell? ⟨b, off + i * 8 + 6, none⟩ = some (.int .i64 dx) ∧ w'.cell? ⟨b, off + i * 8 + 7, none⟩ = some (.int .i64 dy)) (exact HCX6.out _ (by repeat (first | with_reducible exact Fr.refl _ _ | with_reducible refine Fr.drew ?_ | with_reducible refine Fr.trans ?_ hf9 (fun _ _ hh => hh.elim) | with_reducible refine Fr.trans ?_ hf8 (fun _ _ hh => Or.inr hh) | with_reducible refine Fr.trans ?_ hf7 (fun _ _ hh => Or.inl hh)))) (first | (go_at_call 14; refine (HEq.out _ (by repeat (first | with_reducible exact Fr.refl _ _ | with_reducible refine Fr.drew ?_ | with_reducible refine Fr.trans ?_ hf9 (fun _ _ hh => hh.elim) | with_reducible refine Fr.trans ?_ hf8 (fun _ _ hh => Or.inr hh) | with_reducible refine Fr.trans ?_ hf7 (fun _ _ hh => Or.inl hh)))).mono ?_; rintro e w9 ⟨rfl, hf9⟩) | ((have _ := hf7); go_at_call 13; refine (HBk7.out _ (by repeat (first | with_reducible exact Fr.refl _ _ | with_reducible refine Fr.drew ?_ | with_reducible refine Fr.trans ?_ hf7 (fun _ _ hh => hh)))).mono ?_; rintro e w8 ⟨rfl, hf8⟩) | (go_at_call 13; refine (HBk6.out _ (by repeat (first | with_reducible exact Fr.refl _ _ | with_reducible refine Fr.drew ?_))).mono ?_; rintro e w7 ⟨rfl, hf7⟩))
            have hF69 : Fr (fun k => k = g ∨ k = h) w6 w9 := (by repeat (first | with_reducible exact Fr.refl _ _ | with_reducible refine Fr.drew ?_ | with_reducible refine Fr.trans ?_ hf9 (fun _ _ hh => hh.elim) | with_reducible refine Fr.trans ?_ hf8 (fun _ _ hh => Or.inr hh) | with_reducible refine Fr.trans ?_ hf7 (fun _ _ hh => Or.inl hh)))
            have HF9 : Hid (Fr (fun _ => False) w w9) := by
              have e4 := HG3.out
              have e5 := HG4.out
              have hw := HFr.out.size
              have e8 := HF3.out.size
              exact Fr.trans (T := fun k => k = g ∨ k = h) (HFr.out.trans (HF4.out.trans HFB6.out (fun _ _ h => h)) (fun _ _ h => h)) hF69 (fun i hi e => by omega)
            clear hf7 hf8 hf9 hF69
            go_wp2_with fail
            exact ⟨⟨i + 1, by omega, by rw [Int.natCast_add]; rfl, HF9.out⟩, by simp only [intOf]; omega⟩
      · have hdn : decide ((i : Int) < (n : Int)) = true := decide_eq_true (by omega)
        have hd6 : decide ((i : Int) < 6) = false := decide_eq_false (by omega)
        go_wp2_with fail
        refine (wakes8 _).mono ?_
        rintro e w9 ⟨rfl, hf9⟩
        have HF9 : Hid (Fr (fun _ => False) w w9) := HFr.out.trans hf9 (fun _ _ h => h)
        clear hf9
        go_wp2_with fail
        go_ret
        exact ⟨rfl, HF9.out⟩
    · have hdn : decide ((i : Int) < (n : Int)) = false := decide_eq_false (by omega)
      go_wp2_with fail
      refine (wakes8 _).mono ?_
      rintro e w9 ⟨rfl, hf9⟩
      have HF9 : Hid (Fr (fun _ => False) w w9) := HFr.out.trans hf9 (fun _ _ h => h)
      clear hf9
      go_wp2_with fail
      go_ret
      exact ⟨rfl, HF9.out⟩

end Go.Proofs.Ytmfpoabhmpljgaa
