/- 'BitsBack', by contracts. -/
import Derived.Test.YthfimeaajboihaaOps
import Derived.Deep.RegionHeld3
namespace Go.Proofs.Ythfimeaajboihaa
open Go.RowKit

set_option maxRecDepth 100000 in
set_option maxHeartbeats 16000000 in
theorem back_any (mo : Int) (ao : Option Addr) (n cap : Nat) (K : Nat → Int) (N : Nat → Nat) (D : Nat → Int) (w : World) (h : OpsAt w ao n K N D) :
    Calls Try.prog 5 #[.agg #[.int .i64 mo, .slice ao n cap]] w fun e w' => e = .returned (.bool true) ∧ Below w.heap.size w w' := by
  have HOP : Hid (OpsAt w ao n K N D) := h
  clear h
  obtain ⟨i0, hi, hz0, hz1, hz2⟩ := info_parts Try.info36
  go_enter Try.func5, Try.ntmps5
  go_wp2_with fail
  obtain ⟨w1, hw1⟩ : ∃ w1, w1 = w.alloc (.cells #[.int .i64 mo, .slice ao n cap] 24) := ⟨_, rfl⟩
  rw [← hw1]
  have HB1 : Hid (Below w.heap.size w w1) := by rw [hw1]; exact (Below.refl _ _).alloc (Nat.le_refl _) _
  have hs1 : w1.heap.size = w.heap.size + 1 := by rw [hw1]; simp
  have HX : Hid (w1.heap[w.heap.size]? = some (.cells #[.int .i64 mo, .slice ao n cap] 24 (0, 0))) := by rw [hw1]; exact heap_alloc_new _ _
  have HOP1 : Hid (OpsAt w1 ao n K N D) := by
    refine ⟨HOP.out.1, fun hn => ?_, HOP.out.2.2⟩
    obtain ⟨b, off, e, hc⟩ := HOP.out.2.1 hn
    exact ⟨b, off, e, fun j hj => ⟨cell_later HB1.out (hc j hj).1, cell_later HB1.out (hc j hj).2.1, cell_later HB1.out (hc j hj).2.2⟩⟩
  have HB : Hid (w.heap.size + 1 = w1.heap.size) := hs1.symm
  obtain ⟨B, hBe⟩ : ∃ B, B = w.heap.size := ⟨_, rfl⟩
  rw [← hBe] at HX HB ⊢
  have HBE : Hid (B = w.heap.size) := hBe
  clear hw1 HOP hs1 hBe
  refine (newW_any' 67108864 _ _ rfl (by omega)).mono ?_
  rintro e w2 ⟨rfl, hat, hw2⟩
  have HD2 : Hid (WD (B + 1) w1 w2 (B + 1) (.slice none 0 0) (.slice none 0 0) 67108864 (opsBits []) []) := by
    rw [HB.out]
    exact ⟨⟨hat, by rw [hw2]; exact (Below.refl _ _).alloc (Nat.le_refl _) _, Nat.le_refl _, fun k hk => by simp [Value.ownBlock] at hk, by rw [hw2]; simp⟩, World.ownsRow_nil _ _ _ _, fun k hk => by simp [Value.ownBlock] at hk⟩
  rw [← HB.out]
  clear hat hw2
  go_wp2_with fail
  go_loopw [5, 6, 7, 8] (fun dv i _ _ wr => ∃ (k : Nat) (v : Value) (l : List (Int × Nat × Int)), k ≤ n ∧ k ≤ 300 ∧ i = .int .i64 k ∧ WD (B + 1) w1 wr (B + 1) v dv 67108864 (opsBits l) l ∧ Hid (l.length ≤ k ∧ (opsBits l).length ≤ 80 * k ∧ ∀ o ∈ l, opOk o)) (fun _ i _ _ _ => 300 - (intOf i).toNat)
  case atStart => exact ⟨0, .slice none 0 0, [], Nat.zero_le _, Nat.zero_le _, rfl, HD2.out, ⟨by simp, by simp [opsBits], fun o ho => by simp at ho⟩⟩
  case round =>
    obtain ⟨k, v, l, hk1, hk2, rfl, ht, HOK⟩ := hrel
    obtain ⟨dv, hdv⟩ : ∃ dv : Value, dv = u5 := ⟨_, rfl⟩
    rw [← hdv] at ht ⊢
    have HT : Hid (WD (B + 1) w1 wr (B + 1) v dv 67108864 (opsBits l) l) := ht
    have hnl : n ≤ 9223372036854775807 := HOP1.out.1
    have hbox : wr.heap[B]? = some (.cells #[.int .i64 mo, .slice ao n cap] 24 (0, 0)) := by rw [ht.ha.bel.block B (by omega)]; exact HX.out
    obtain ⟨x0, x1, xf⟩ := cell_of_two hbox
    clear ht HD2 hbox x0 xf hdv
    by_cases hlt : k < n
    · by_cases h300 : k < 300
      · obtain ⟨b, off, rfl, hc⟩ := HOP1.out.2.1 (by omega)
        obtain ⟨e1, e2, e3⟩ := hc k hlt
        have hbl : ∀ j x, w1.cell? ⟨b, j, none⟩ = some x → wr.cell? ⟨b, j, none⟩ = some x := fun j x hx => by
          have hb : b < B + 1 := by rw [HB.out]; exact World.block_lt_of_cell? w1 _ hx
          rw [HT.out.ha.bel.cell (p := ⟨b, j, none⟩) hb]; exact hx
        have g1 := hbl _ _ e1
        have g2 := hbl _ _ e2
        have g3 := hbl _ _ e3
        have hNk : Hid (N k < 18446744073709551616) := (HOP1.out.2.2 k hlt).2.1
        clear hbl e1 e2 e3 hc
        generalize N k = nk at g2 hNk
        generalize D k = dk at g3
        generalize K k = kd at g1
        have hroom : Hid ((opsBits l).length + 100 ≤ 8 * 67108864) := by have := HOK.out.2.1; show _ ≤ _; omega
        by_cases hk0 : kd = 0
        · subst hk0
          by_cases hdk : dk < 0 ∨ 64 < dk
          · have HDK : Hid (dk < 0 ∨ 64 < dk) := hdk
            clear hdk
            obtain ⟨w3, hw3⟩ : ∃ w3, w3 = wr.alloc (.cells #[.int .i64 0, .int .u64 nk, .int .i64 dk] 36) := ⟨_, rfl⟩
            have HT3 : Hid (WD (B + 1) w1 w3 (B + 1) v dv 67108864 (opsBits l) l) := by rw [hw3]; exact HT.out.later ((Fr.refl (fun _ => False) _).alloc _)
            have HOB : Hid (w3.heap[wr.heap.size]? = some (.cells #[.int .i64 0, .int .u64 nk, .int .i64 dk] 36 (0, 0)) ∧ wr.heap.size < w3.heap.size) := by rw [hw3]; exact ⟨heap_alloc_new _ _, by simp⟩
            have HLT : Hid ((B + 1) < wr.heap.size ∧ (∀ j, v.ownBlock = some j → j < wr.heap.size)) := ⟨HT.out.ha.at_.lt, HT.out.ha.at_.rowlt⟩
            have HW3 : Hid (w3 = wr.alloc (.cells #[.int .i64 0, .int .u64 nk, .int .i64 dk] 36)) := hw3
            clear hw3 HT
            go_wp2_with fail
            rw [← HW3.out]
            obtain ⟨o0, o1, o2, of⟩ := cell_of_three HOB.out.1
            refine (put_width _ _ dk _ HDK.out).mono ?_
            rintro e w4 ⟨rfl, hw4⟩
            have hq64 : (dk == 64) = false := by have := HDK.out; simp; omega
            have HT4 : Hid (WD (B + 1) w1 w4 (B + 1) v dv 67108864 (opsBits l) l) := by rw [hw4]; exact HT3.out
            rw [← hw4] at o0 o1 o2
            have HOK4 : Hid (l.length ≤ k + 1 ∧ (opsBits l).length ≤ 80 * (k + 1) ∧ ∀ o ∈ l, opOk o) := ⟨by have := HOK.out.1; omega, by have := HOK.out.2.1; omega, HOK.out.2.2⟩
            clear hw4 HT3 of
            go_wp2_with fail
            go_roundw
            case rel => exact ⟨k + 1, v, l, by omega, by omega, congrArg (Value.int .i64) (by omega), HT4.out, HOK4⟩
            case measure => simp [intOf]; omega
          · obtain ⟨wd, hwd⟩ : ∃ wd : Nat, dk = wd := ⟨dk.toNat, by omega⟩
            have hwl : wd ≤ 64 := by omega
            subst hwd
            clear hdk
            by_cases hvl : 2 ^ wd ≤ nk
            · have HVL : Hid (2 ^ wd ≤ nk) := hvl
              have h64 : Hid (wd < 64) := by
                have h1 := hNk.out
                rcases Nat.lt_or_ge wd 64 with h | h
                · exact h
                · rw [show wd = 64 from by omega] at hvl; omega
              clear hvl
              obtain ⟨w3, hw3⟩ : ∃ w3, w3 = wr.alloc (.cells #[.int .i64 0, .int .u64 nk, .int .i64 (wd : Int)] 36) := ⟨_, rfl⟩
              have HT3 : Hid (WD (B + 1) w1 w3 (B + 1) v dv 67108864 (opsBits l) l) := by rw [hw3]; exact HT.out.later ((Fr.refl (fun _ => False) _).alloc _)
              have HOB : Hid (w3.heap[wr.heap.size]? = some (.cells #[.int .i64 0, .int .u64 nk, .int .i64 (wd : Int)] 36 (0, 0)) ∧ wr.heap.size < w3.heap.size) := by rw [hw3]; exact ⟨heap_alloc_new _ _, by simp⟩
              have HLT : Hid ((B + 1) < wr.heap.size ∧ (∀ j, v.ownBlock = some j → j < wr.heap.size)) := ⟨HT.out.ha.at_.lt, HT.out.ha.at_.rowlt⟩
              have HW3 : Hid (w3 = wr.alloc (.cells #[.int .i64 0, .int .u64 nk, .int .i64 (wd : Int)] 36)) := hw3
              clear hw3 HT
              go_wp2_with fail
              rw [← HW3.out]
              obtain ⟨o0, o1, o2, of⟩ := cell_of_three HOB.out.1
              refine (put_value _ nk wd _ hwl HVL.out).mono ?_
              rintro e w4 ⟨rfl, hw4⟩
              have hq64 : ((wd : Int) == 64) = false := by have := h64.out; simp; omega
              have HT4 : Hid (WD (B + 1) w1 w4 (B + 1) v dv 67108864 (opsBits l) l) := by rw [hw4]; exact HT3.out
              rw [← hw4] at o0 o1 o2
              have HOK4 : Hid (l.length ≤ k + 1 ∧ (opsBits l).length ≤ 80 * (k + 1) ∧ ∀ o ∈ l, opOk o) := ⟨by have := HOK.out.1; omega, by have := HOK.out.2.1; omega, HOK.out.2.2⟩
              clear hw4 HT3 of
              go_wp2_with fail
              go_roundw
              case rel => exact ⟨k + 1, v, l, by omega, by omega, congrArg (Value.int .i64) (by omega), HT4.out, HOK4⟩
              case measure => simp [intOf]; omega
            · have HVL : Hid (nk < 2 ^ wd) := by show _ < _; omega
              clear hvl
              obtain ⟨w3, hw3⟩ : ∃ w3, w3 = wr.alloc (.cells #[.int .i64 0, .int .u64 nk, .int .i64 (wd : Int)] 36) := ⟨_, rfl⟩
              have HT3 : Hid (WD (B + 1) w1 w3 (B + 1) v dv 67108864 (opsBits l) l) := by rw [hw3]; exact HT.out.later ((Fr.refl (fun _ => False) _).alloc _)
              have HOB : Hid (w3.heap[wr.heap.size]? = some (.cells #[.int .i64 0, .int .u64 nk, .int .i64 (wd : Int)] 36 (0, 0)) ∧ wr.heap.size < w3.heap.size) := by rw [hw3]; exact ⟨heap_alloc_new _ _, by simp⟩
              have HLT : Hid ((B + 1) < wr.heap.size ∧ (∀ j, v.ownBlock = some j → j < wr.heap.size)) := ⟨HT.out.ha.at_.lt, HT.out.ha.at_.rowlt⟩
              have HW3 : Hid (w3 = wr.alloc (.cells #[.int .i64 0, .int .u64 nk, .int .i64 (wd : Int)] 36)) := hw3
              clear hw3 HT
              go_wp2_with fail
              rw [← HW3.out]
              obtain ⟨o0, o1, o2, of⟩ := cell_of_three HOB.out.1
              refine (put_fits (B + 1) v 67108864 (opsBits l) nk wd _ HT3.out.ha.at_ hwl HVL.out (by have := hroom.out; omega)).mono ?_
              rintro e w4 ⟨rfl, v4, hat, hst⟩
              have HT4 : Hid (WD (B + 1) w1 w4 (B + 1) v4 dv 67108864 (opsBits l ++ bitsOf nk wd) l) := HT3.out.stepW hat hst
              have hO : ∀ j x, w3.cell? ⟨wr.heap.size, j, none⟩ = some x → w4.cell? ⟨wr.heap.size, j, none⟩ = some x := fun j x hx => hst.fr.cell hx (by rintro (e | e); (have := HLT.out.1; omega); (have := HLT.out.2 _ e; omega))
              have p0 := hO _ _ o0
              have p1 := hO _ _ o1
              have p2 := hO _ _ o2
              clear hO o0 o1 o2 of
              have HBT : Hid (opsBits (l ++ [(0, nk, (wd : Int))]) = opsBits l ++ bitsOf nk wd) := by
                show _ = _
                rw [opsBits_snoc]; unfold opBits; rw [if_pos rfl]; simp
              have HBL : Hid ((opsBits (l ++ [(0, nk, (wd : Int))])).length ≤ 80 * (k + 1)) := by
                show _ ≤ _
                rw [HBT.out, List.length_append, length_bitsOf]; have := HOK.out.2.1; omega
              have HOP2 : Hid (opOk (0, nk, (wd : Int))) := ⟨hNk.out, fun _ => ⟨by simp, by simp; omega, by simpa using HVL.out⟩⟩
              clear hat hst HT3 HVL
              have hown := HT4.out.hd
              have hll : l.length ≤ 300 := by have := HOK.out.1; omega
              go_wp2_with (first | (at_builtin; refine wpList_append_row _ rfl _ _ 22 rfl 36 i0 (.agg #[.int .i64 0, .int .u64 0, .int .i64 0]) 3 24 Try.underlying22 hi hz0 hz1 hz2 rfl (by decide) _ _ _ rfl (hown.alloc _) ⟨w4.heap.size, 0, none⟩ 1 1 _ rfl rfl (cell_three_new _ _ _ _ _) ?_ ?_ ?_ (by decide) ?_))
              · intro u hu; simp at hu; rcases hu with rfl | rfl | rfl <;> rfl
              · unfold maxLen; omega
              · omega
              · intro g' cap' w5 hown' hgrow hrow' hc' hm'
                have HT5 : Hid (WD (B + 1) w1 w5 (B + 1) v4 (.slice (some ⟨g', 0, none⟩) (l.length + 1) cap') 67108864 _ (l ++ [(0, nk, (wd : Int))])) := HT4.out.push hown' hgrow hrow'
                have HT6 : Hid (WD (B + 1) w1 w5 (B + 1) v4 (.slice (some ⟨g', 0, none⟩) (l.length + 1) cap') 67108864 (opsBits (l ++ [(0, nk, (wd : Int))])) (l ++ [(0, nk, (wd : Int))])) := by rw [HBT.out]; exact HT5.out
                have HOK6 : Hid ((l ++ [(0, nk, (wd : Int))]).length ≤ k + 1 ∧ (opsBits (l ++ [(0, nk, (wd : Int))])).length ≤ 80 * (k + 1) ∧ ∀ o ∈ l ++ [(0, nk, (wd : Int))], opOk o) := by
                  refine ⟨by simp; exact HOK.out.1, HBL.out, fun o ho => ?_⟩
                  simp only [List.mem_append, List.mem_singleton] at ho
                  rcases ho with ho | rfl
                  · exact HOK.out.2.2 o ho
                  · exact HOP2.out
                clear hown' hgrow hrow' hown p0 p1 p2 HT4 HT5
                go_wp2_with fail
                go_roundw
                case rel => exact ⟨k + 1, v4, l ++ [(0, nk, (wd : Int))], by omega, by omega, congrArg (Value.int .i64) (by omega), HT6.out, HOK6⟩
                case measure => simp [intOf]; omega
        · have hkd0 : (kd == 0) = false := by simp; omega
          by_cases hk1' : kd = 1
          · subst hk1'
            obtain ⟨w3, hw3⟩ : ∃ w3, w3 = wr.alloc (.cells #[.int .i64 1, .int .u64 nk, .int .i64 dk] 36) := ⟨_, rfl⟩
            have HT3 : Hid (WD (B + 1) w1 w3 (B + 1) v dv 67108864 (opsBits l) l) := by rw [hw3]; exact HT.out.later ((Fr.refl (fun _ => False) _).alloc _)
            have HOB : Hid (w3.heap[wr.heap.size]? = some (.cells #[.int .i64 1, .int .u64 nk, .int .i64 dk] 36 (0, 0)) ∧ wr.heap.size < w3.heap.size) := by rw [hw3]; exact ⟨heap_alloc_new _ _, by simp⟩
            have HLT : Hid ((B + 1) < wr.heap.size ∧ (∀ j, v.ownBlock = some j → j < wr.heap.size)) := ⟨HT.out.ha.at_.lt, HT.out.ha.at_.rowlt⟩
            have HW3 : Hid (w3 = wr.alloc (.cells #[.int .i64 1, .int .u64 nk, .int .i64 dk] 36)) := hw3
            clear hw3 HT
            go_wp2_with fail
            rw [← HW3.out]
            obtain ⟨o0, o1, o2, of⟩ := cell_of_three HOB.out.1
            refine (wvar_fits (B + 1) v 67108864 (opsBits l) nk _ HT3.out.ha.at_ hNk.out (by have := length_varBits nk; have := length_groups_u64 nk hNk.out; have := hroom.out; omega)).mono ?_
            rintro e w4 ⟨rfl, v4, hat, hst⟩
            have HT4 : Hid (WD (B + 1) w1 w4 (B + 1) v4 dv 67108864 (opsBits l ++ varBits nk) l) := HT3.out.stepW hat hst
            have hO : ∀ j x, w3.cell? ⟨wr.heap.size, j, none⟩ = some x → w4.cell? ⟨wr.heap.size, j, none⟩ = some x := fun j x hx => hst.fr.cell hx (by rintro (e | e); (have := HLT.out.1; omega); (have := HLT.out.2 _ e; omega))
            have p0 := hO _ _ o0
            have p1 := hO _ _ o1
            have p2 := hO _ _ o2
            clear hO o0 o1 o2 of
            have HBT : Hid (opsBits (l ++ [(1, nk, dk)]) = opsBits l ++ varBits nk) := by
              show _ = _
              rw [opsBits_snoc]; unfold opBits; rw [if_neg (by omega), if_pos rfl]
            have HBL : Hid ((opsBits (l ++ [(1, nk, dk)])).length ≤ 80 * (k + 1)) := by
              show _ ≤ _
              rw [HBT.out, List.length_append]; have := length_varBits nk; have := length_groups_u64 nk hNk.out; have := HOK.out.2.1; omega
            have HOP2 : Hid (opOk (1, nk, dk)) := ⟨hNk.out, fun e => absurd e (by omega)⟩
            clear hat hst HT3
            have hown := HT4.out.hd
            have hll : l.length ≤ 300 := by have := HOK.out.1; omega
            go_wp2_with (first | (at_builtin; refine wpList_append_row _ rfl _ _ 22 rfl 36 i0 (.agg #[.int .i64 0, .int .u64 0, .int .i64 0]) 3 24 Try.underlying22 hi hz0 hz1 hz2 rfl (by decide) _ _ _ rfl (hown.alloc _) ⟨w4.heap.size, 0, none⟩ 1 1 _ rfl rfl (cell_three_new _ _ _ _ _) ?_ ?_ ?_ (by decide) ?_))
            · intro u hu; simp at hu; rcases hu with rfl | rfl | rfl <;> rfl
            · unfold maxLen; omega
            · omega
            · intro g' cap' w5 hown' hgrow hrow' hc' hm'
              have HT5 : Hid (WD (B + 1) w1 w5 (B + 1) v4 (.slice (some ⟨g', 0, none⟩) (l.length + 1) cap') 67108864 _ (l ++ [(1, nk, dk)])) := HT4.out.push hown' hgrow hrow'
              have HT6 : Hid (WD (B + 1) w1 w5 (B + 1) v4 (.slice (some ⟨g', 0, none⟩) (l.length + 1) cap') 67108864 (opsBits (l ++ [(1, nk, dk)])) (l ++ [(1, nk, dk)])) := by rw [HBT.out]; exact HT5.out
              have HOK6 : Hid ((l ++ [(1, nk, dk)]).length ≤ k + 1 ∧ (opsBits (l ++ [(1, nk, dk)])).length ≤ 80 * (k + 1) ∧ ∀ o ∈ l ++ [(1, nk, dk)], opOk o) := by
                refine ⟨by simp; exact HOK.out.1, HBL.out, fun o ho => ?_⟩
                simp only [List.mem_append, List.mem_singleton] at ho
                rcases ho with ho | rfl
                · exact HOK.out.2.2 o ho
                · exact HOP2.out
              clear hown' hgrow hrow' hown p0 p1 p2 HT4 HT5
              go_wp2_with fail
              go_roundw
              case rel => exact ⟨k + 1, v4, l ++ [(1, nk, dk)], by omega, by omega, congrArg (Value.int .i64) (by omega), HT6.out, HOK6⟩
              case measure => simp [intOf]; omega
          · have hkd1 : (kd == 1) = false := by simp; omega
            obtain ⟨w3, hw3⟩ : ∃ w3, w3 = wr.alloc (.cells #[.int .i64 kd, .int .u64 nk, .int .i64 dk] 36) := ⟨_, rfl⟩
            have HT3 : Hid (WD (B + 1) w1 w3 (B + 1) v dv 67108864 (opsBits l) l) := by rw [hw3]; exact HT.out.later ((Fr.refl (fun _ => False) _).alloc _)
            have HOB : Hid (w3.heap[wr.heap.size]? = some (.cells #[.int .i64 kd, .int .u64 nk, .int .i64 dk] 36 (0, 0)) ∧ wr.heap.size < w3.heap.size) := by rw [hw3]; exact ⟨heap_alloc_new _ _, by simp⟩
            have HLT : Hid ((B + 1) < wr.heap.size ∧ (∀ j, v.ownBlock = some j → j < wr.heap.size)) := ⟨HT.out.ha.at_.lt, HT.out.ha.at_.rowlt⟩
            have HW3 : Hid (w3 = wr.alloc (.cells #[.int .i64 kd, .int .u64 nk, .int .i64 dk] 36)) := hw3
            clear hw3 HT
            go_wp2_with fail
            rw [← HW3.out]
            obtain ⟨o0, o1, o2, of⟩ := cell_of_three HOB.out.1
            refine (align_any (B + 1) v 67108864 (opsBits l) _ HT3.out.ha.at_).mono ?_
            rintro e w4 ⟨rfl, hat, hst⟩
            obtain ⟨v4, hv4⟩ : ∃ v4, v4 = v := ⟨_, rfl⟩
            have HT4 : Hid (WD (B + 1) w1 w4 (B + 1) v4 dv 67108864 (padded (opsBits l)) l) := by rw [hv4]; exact HT3.out.stepW hat hst
            have hO : ∀ j x, w3.cell? ⟨wr.heap.size, j, none⟩ = some x → w4.cell? ⟨wr.heap.size, j, none⟩ = some x := fun j x hx => hst.fr.cell hx (by rintro (e | e); (have := HLT.out.1; omega); (have := HLT.out.2 _ e; omega))
            have p0 := hO _ _ o0
            have p1 := hO _ _ o1
            have p2 := hO _ _ o2
            clear hO o0 o1 o2 of
            have HBT : Hid (opsBits (l ++ [(kd, nk, dk)]) = padded (opsBits l)) := by
              show _ = _
              rw [opsBits_snoc]; unfold opBits; rw [if_neg hk0, if_neg hk1']
            have HBL : Hid ((opsBits (l ++ [(kd, nk, dk)])).length ≤ 80 * (k + 1)) := by
              show _ ≤ _
              rw [HBT.out, length_padded]; have := HOK.out.2.1; omega
            have HOP2 : Hid (opOk (kd, nk, dk)) := ⟨hNk.out, fun e => absurd e hk0⟩
            clear hat hst HT3 hv4
            have hown := HT4.out.hd
            have hll : l.length ≤ 300 := by have := HOK.out.1; omega
            go_wp2_with (first | (at_builtin; refine wpList_append_row _ rfl _ _ 22 rfl 36 i0 (.agg #[.int .i64 0, .int .u64 0, .int .i64 0]) 3 24 Try.underlying22 hi hz0 hz1 hz2 rfl (by decide) _ _ _ rfl (hown.alloc _) ⟨w4.heap.size, 0, none⟩ 1 1 _ rfl rfl (cell_three_new _ _ _ _ _) ?_ ?_ ?_ (by decide) ?_))
            · intro u hu; simp at hu; rcases hu with rfl | rfl | rfl <;> rfl
            · unfold maxLen; omega
            · omega
            · intro g' cap' w5 hown' hgrow hrow' hc' hm'
              have HT5 : Hid (WD (B + 1) w1 w5 (B + 1) v4 (.slice (some ⟨g', 0, none⟩) (l.length + 1) cap') 67108864 _ (l ++ [(kd, nk, dk)])) := HT4.out.push hown' hgrow hrow'
              have HT6 : Hid (WD (B + 1) w1 w5 (B + 1) v4 (.slice (some ⟨g', 0, none⟩) (l.length + 1) cap') 67108864 (opsBits (l ++ [(kd, nk, dk)])) (l ++ [(kd, nk, dk)])) := by rw [HBT.out]; exact HT5.out
              have HOK6 : Hid ((l ++ [(kd, nk, dk)]).length ≤ k + 1 ∧ (opsBits (l ++ [(kd, nk, dk)])).length ≤ 80 * (k + 1) ∧ ∀ o ∈ l ++ [(kd, nk, dk)], opOk o) := by
                refine ⟨by simp; exact HOK.out.1, HBL.out, fun o ho => ?_⟩
                simp only [List.mem_append, List.mem_singleton] at ho
                rcases ho with ho | rfl
                · exact HOK.out.2.2 o ho
                · exact HOP2.out
              clear hown' hgrow hrow' hown p0 p1 p2 HT4 HT5
              go_wp2_with fail
              go_roundw
              case rel => exact ⟨k + 1, v4, l ++ [(kd, nk, dk)], by omega, by omega, congrArg (Value.int .i64) (by omega), HT6.out, HOK6⟩
              case measure => simp [intOf]; omega
      · have hnot : ∀ (x : Bool) (w : World), (Op.unary .not (.bool x)).run Try.prog w = .ok (.bool (!x)) w := fun _ _ => rfl
        have hbsl : (opsBits l).length ≤ 24000 := by have := HOK.out.2.1; omega
        have hll : l.length ≤ 300 := by have := HOK.out.1; omega
        have HOK2 : Hid (∀ o ∈ l, opOk o) := HOK.out.2.2
        clear HOK hk2 hi hz0 hz1 hz2
        go_wp2_with fail
        clear x1
        refine (len_any (B + 1) v 67108864 (opsBits l) _ HT.out.ha.at_).mono ?_
        rintro e w4 ⟨rfl, hw4⟩
        subst hw4
        go_wp2_with fail
        refine (bytes_any (B + 1) v 67108864 (opsBits l) _ HT.out.ha.at_).mono ?_
        rintro e w5 ⟨rv, rfl, hrv, hb5⟩
        have HT5 : Hid (WD (B + 1) w1 w5 (B + 1) v dv 67108864 (opsBits l) l) := HT.out.later (Fr.of_below hb5 _)
        have HRV0 : Hid (BytesAt w5 _ rv (pack (opsBits l))) := hrv
        have hpl : (pack (opsBits l)).length ≤ 3001 := by rw [length_pack]; omega
        have HPB : Hid (∀ x ∈ pack (opsBits l), x < 256) := pack_lt _
        have HPL : Hid ((pack (opsBits l)).length = ((opsBits l).length + 7) / 8) := length_pack _
        clear hrv hb5 HT
        go_wp2_with fail
        refine (newR_row rv _ (pack (opsBits l)) _ HRV0.out (by omega) HPB.out).mono ?_
        rintro e w6 ⟨br, vr, rfl, hr6, hb6, hbr6, hrr6⟩
        have HT6 : Hid (WD (B + 1) w1 w6 (B + 1) v dv 67108864 (opsBits l) l) := HT5.out.later (Fr.of_below hb6 _)
        have HR6 : Hid (RAt w6 br vr (pack (opsBits l)) 0) := hr6
        have hrB : Hid (B + 1 ≤ br) := Nat.le_trans HT5.out.ha.size hbr6
        clear hr6 hb6 hbr6 hrr6 HT5 HRV0
        obtain ⟨dao, dcap, hdv2, hdg, hdm⟩ := row_shape HT6.out.hd
        have HDG : Hid (0 < l.length → ∃ g, dao = some ⟨g, 0, none⟩) := hdg
        have HD6 : Hid (w6.ownsRow 0 36 3 (.slice dao l.length dcap) l.length (opCells l)) := by rw [← hdv2]; exact HT6.out.hd
        have HB6 : Hid (Below (B + 1) w1 w6) := HT6.out.ha.bel
        rw [hdv2]
        clear hdv2 hdg HT6
        unfold maxLen at hdm
        generalize hple : pack (opsBits l) = pl at hpl HPB HPL HR6
        have HPLE : Hid (pack (opsBits l) = pl) := hple
        clear hple
        go_wp2_with fail
        go_loopw [11, 12, 13, 14, 15] (fun i _ _ _ _ wr => ∃ j : Nat, j ≤ l.length ∧ i = .int .i64 j ∧ RAt wr br vr pl (opsBits (l.take j)).length ∧ Below (B + 1) w1 wr ∧ wr.ownsRow 0 36 3 (.slice dao l.length dcap) l.length (opCells l)) (fun i _ _ _ _ _ => l.length - (intOf i).toNat)
        case atStart => exact ⟨0, Nat.zero_le _, rfl, HR6.out, HB6.out, HD6.out⟩
        case round =>
          obtain ⟨j, hj, rfl, hr, hbel, hdv⟩ := hrel
          have HBB : Hid (Below (B + 1) w1 wr) := hbel
          by_cases hjl : j < l.length
          · obtain ⟨g, rfl⟩ := HDG.out (by omega)
            have HDV : Hid (wr.ownsRow 0 36 3 (.slice (some ⟨g, 0, none⟩) l.length dcap) l.length (opCells l)) := hdv
            obtain ⟨⟨kd, nk, dk⟩, ho⟩ : ∃ o, l[j]? = some o := ⟨_, List.getElem?_eq_getElem hjl⟩
            have hok : opOk (kd, nk, dk) := HOK2.out _ (List.mem_of_getElem? ho)
            obtain ⟨z0, z1, z2⟩ := opCells_get l j (kd, nk, dk) ho
            have c0 : wr.cell? ⟨g, j * 3, none⟩ = some (.int .i64 kd) := by rw [hdv.cellAt (j * 3) (by omega)]; exact z0
            have c1 : wr.cell? ⟨g, j * 3 + 1, none⟩ = some (.int .u64 (nk : Int)) := by rw [hdv.cellAt (j * 3 + 1) (by omega)]; exact z1
            have c2 : wr.cell? ⟨g, j * 3 + 2, none⟩ = some (.int .i64 dk) := by rw [hdv.cellAt (j * 3 + 2) (by omega)]; exact z2
            have HLJ : Hid (l[j]? = some (kd, nk, dk)) := ho
            have hNk : Hid (nk < 18446744073709551616) := hok.1
            have HVO : Hid (kd = 0 → 0 ≤ dk ∧ dk ≤ 64 ∧ nk < 2 ^ dk.toNat) := hok.2
            have hple := HPLE.out
            obtain ⟨p, hpe⟩ : ∃ p, (opsBits (l.take j)).length = p := ⟨_, rfl⟩
            rw [hpe] at hr
            have HR : Hid (RAt wr br vr pl p) := hr
            have hple2 : p ≤ 8 * pl.length := hr.le
            clear hr hbel hdv hok z0 z1 z2 ho HR6 HB6 HD6
            by_cases hk0 : kd = 0
            · subst hk0
              obtain ⟨wd, hwd⟩ : ∃ wd : Nat, dk = wd := ⟨dk.toNat, by have := HVO.out rfl; omega⟩
              subst hwd
              have hwl : wd ≤ 64 := by have := HVO.out rfl; omega
              have HVL : Hid (nk < 2 ^ wd) := by have := (HVO.out rfl).2.2; show nk < 2 ^ wd; simpa using this
              clear HVO
              have HBP := back_put l j nk wd HLJ.out HVL.out
              rw [hple, hpe] at HBP
              have HNB : Hid (num (nextBits pl p wd) = nk) := HBP.1
              have hrm : p + wd ≤ 8 * pl.length := HBP.2.1
              have HPN : Hid ((opsBits (l.take (j + 1))).length = p + wd) := HBP.2.2
              clear HBP hple hpe
              obtain ⟨w11, hw11⟩ : ∃ w11, w11 = wr.alloc (.cells #[.int .i64 0, .int .u64 nk, .int .i64 (wd : Int)] 36) := ⟨_, rfl⟩
              have HR11 : Hid (RAt w11 br vr pl p) := by rw [hw11]; exact HR.out.kept ((Fr.refl (fun _ => False) _).alloc _) (fun hh => hh) (fun _ _ hh => hh)
              have HF11 : Hid (Fr (fun k => k = br) wr w11) := by rw [hw11]; exact (Fr.refl _ _).alloc _
              have hob : w11.heap[wr.heap.size]? = some (.cells #[.int .i64 0, .int .u64 nk, .int .i64 (wd : Int)] 36 (0, 0)) := by rw [hw11]; exact heap_alloc_new _ _
              obtain ⟨o0, o1, o2, of⟩ := cell_of_three hob
              have HW11 : Hid (w11 = wr.alloc (.cells #[.int .i64 0, .int .u64 nk, .int .i64 (wd : Int)] 36)) := hw11
              have HBR : Hid (br < wr.heap.size) := HR.out.lt
              clear hw11 hob o0 o1 o2 of
              go_wp2_with fail
              rw [← HW11.out]
              refine (left_any br vr pl p _ HR11.out).mono ?_
              rintro e w12 ⟨rfl, q12, hw12⟩
              have HR12 : Hid (RAt w12 br vr pl p) := by rw [hw12]; exact HR11.out.drewN q12
              have HF12 : Hid (Fr (fun k => k = br) wr w12) := by rw [hw12]; exact HF11.out.drewN q12
              have hob : w12.heap[wr.heap.size]? = some (.cells #[.int .i64 0, .int .u64 nk, .int .i64 (wd : Int)] 36 (0, 0)) := by rw [hw12]; show w11.heap[wr.heap.size]? = _; rw [HW11.out]; exact heap_alloc_new _ _
              obtain ⟨o0, o1, o2, of⟩ := cell_of_three hob
              clear hw12 HR11 HF11 hob
              go_wp2_with fail
              refine (take_any br vr pl p wd _ HR12.out hwl hrm).mono ?_
              rw [HNB.out]
              rintro e w13 ⟨rfl, hr13, hf13⟩
              have HR13 : Hid (RAt w13 br vr pl (p + wd)) := hr13
              have hO : ∀ j x, w12.cell? ⟨wr.heap.size, j, none⟩ = some x → w13.cell? ⟨wr.heap.size, j, none⟩ = some x := fun j x hx => hf13.cell hx (by have := HBR.out; omega)
              have p0 := hO _ _ o0
              have p1 := hO _ _ o1
              have p2 := hO _ _ o2
              have HF13 : Hid (Fr (fun k => k = br) wr w13) := HF12.out.trans hf13 (fun _ _ hh => hh)
              clear hO o0 o1 o2 of hf13 HF12 HR12
              clear hr13
              have hlq : ((8 * pl.length - p : Nat) : Int) - ((8 * pl.length - (p + wd) : Nat) : Int) = (wd : Int) := by omega
              generalize 8 * pl.length - p = lf at hlq ⊢
              obtain ⟨lf2, hlf2⟩ : ∃ lf2, lf2 = 8 * pl.length - (p + wd) := ⟨_, rfl⟩
              rw [← hlf2] at hlq
              have HL2 : Hid ((((8 * pl.length - (p + wd) : Nat) : Int)) = (lf2 : Int)) := by show _ = _; rw [hlf2]
              have hq0 : IntKind.i64.wrap ((lf : Int) - (lf2 : Int)) = (wd : Int) := by rw [hlq, IntKind.wrap_i64]; omega
              have hq1 : ((wd : Int) != (wd : Int)) = false := by simp
              have hq2 : ((nk : Int) != (nk : Int)) = false := by simp
              have hb1 : lf ≤ 9000000000 := by omega
              have hb2 : lf2 ≤ 9000000000 := by omega
              clear hlq hlf2
              go_wp2
              go_region_held3 (fun w' => w'.cell? ⟨wr.heap.size, 2, none⟩ = some (.int .i64 (wd : Int))) (first | go_keep | (rw [hw14]; exact p2)) (first | (go_at_call 31; refine (left_is br vr pl (p + wd) (lf2 : Int) _ ?_ HL2.out).mono ?_; exact HR13.out.drewN 1; rintro e w14 ⟨rfl, q14, hw14⟩))
              subst hw14
              have HRZ : Hid (RAt (w13.drewN (1 + q14)) br vr pl (p + wd)) := HR13.out.drewN (1 + q14)
              have HFZ : Hid (Fr (fun k => k = br) wr (w13.drewN (1 + q14))) := HF13.out.drewN (1 + q14)
              have HBZ : Hid (Below (B + 1) w1 (w13.drewN (1 + q14))) := HBB.out.trans (HFZ.out.below (by have := HBB.out.size; have := HB.out; omega) (fun k hk e => by have := hrB.out; omega))
              have HDZ : Hid ((w13.drewN (1 + q14)).ownsRow 0 36 3 (.slice (some ⟨g, 0, none⟩) l.length dcap) l.length (opCells l)) := row_keptS HDV.out HFZ.out (fun k hk e => row_off HDV.out HR.out.blk (by omega) (by rw [hk, e]))
              clear HF13 HR13 HFZ
              go_wp2_with fail
              go_roundw
              case rel => exact ⟨j + 1, by omega, congrArg (Value.int .i64) (by omega), by rw [HPN.out]; exact HRZ.out, HBZ.out, HDZ.out⟩
              case measure => simp [intOf]; omega
            · have hkd0 : (kd == 0) = false := by simp; omega
              clear HVO
              by_cases hk1' : kd = 1
              · subst hk1'
                have HBP := back_var l j nk dk HLJ.out hNk.out
                rw [hple, hpe] at HBP
                have HRV : Hid (rvar pl p = (nk, 0, p + 8 * (groups nk).length)) := HBP.1
                have hrm : p + 8 * (groups nk).length ≤ 8 * pl.length := HBP.2.1
                have HPN : Hid ((opsBits (l.take (j + 1))).length = p + 8 * (groups nk).length) := HBP.2.2
                have hgl := length_groups_u64 nk hNk.out
                have hgp : 0 < (groups nk).length := by rw [len_cnt]; omega
                clear HBP hple hpe
                obtain ⟨w11, hw11⟩ : ∃ w11, w11 = wr.alloc (.cells #[.int .i64 1, .int .u64 nk, .int .i64 dk] 36) := ⟨_, rfl⟩
                have HR11 : Hid (RAt w11 br vr pl p) := by rw [hw11]; exact HR.out.kept ((Fr.refl (fun _ => False) _).alloc _) (fun hh => hh) (fun _ _ hh => hh)
                have HF11 : Hid (Fr (fun k => k = br) wr w11) := by rw [hw11]; exact (Fr.refl _ _).alloc _
                have hob : w11.heap[wr.heap.size]? = some (.cells #[.int .i64 1, .int .u64 nk, .int .i64 dk] 36 (0, 0)) := by rw [hw11]; exact heap_alloc_new _ _
                obtain ⟨o0, o1, o2, of⟩ := cell_of_three hob
                have HW11 : Hid (w11 = wr.alloc (.cells #[.int .i64 1, .int .u64 nk, .int .i64 dk] 36)) := hw11
                have HBR : Hid (br < wr.heap.size) := HR.out.lt
                clear hw11 hob o0 o1 o2 of
                go_wp2_with fail
                rw [← HW11.out]
                refine (left_any br vr pl p _ HR11.out).mono ?_
                rintro e w12 ⟨rfl, q12, hw12⟩
                have HR12 : Hid (RAt w12 br vr pl p) := by rw [hw12]; exact HR11.out.drewN q12
                have HF12 : Hid (Fr (fun k => k = br) wr w12) := by rw [hw12]; exact HF11.out.drewN q12
                have hob : w12.heap[wr.heap.size]? = some (.cells #[.int .i64 1, .int .u64 nk, .int .i64 dk] 36 (0, 0)) := by rw [hw12]; show w11.heap[wr.heap.size]? = _; rw [HW11.out]; exact heap_alloc_new _ _
                obtain ⟨o0, o1, o2, of⟩ := cell_of_three hob
                clear hw12 HR11 HF11 hob
                go_wp2_with fail
                refine (rvar_any br vr pl p nk 0 (p + 8 * (groups nk).length) _ HR12.out HRV).mono ?_
                rintro e w13 ⟨rfl, hr13, hf13⟩
                rw [backTo_ok] at hr13
                have HR13 : Hid (RAt w13 br vr pl (p + 8 * (groups nk).length)) := hr13
                have hO : ∀ j x, w12.cell? ⟨wr.heap.size, j, none⟩ = some x → w13.cell? ⟨wr.heap.size, j, none⟩ = some x := fun j x hx => hf13.cell hx (by have := HBR.out; omega)
                have p0 := hO _ _ o0
                have p1 := hO _ _ o1
                have p2 := hO _ _ o2
                have HF13 : Hid (Fr (fun k => k = br) wr w13) := HF12.out.trans hf13 (fun _ _ hh => hh)
                clear hO o0 o1 o2 of hf13 HF12 HR12
                clear hr13
                have hlq : ((8 * pl.length - p : Nat) : Int) - ((8 * pl.length - (p + 8 * (groups nk).length) : Nat) : Int) = 8 * ((groups nk).length : Int) := by omega
                generalize 8 * pl.length - p = lf at hlq ⊢
                obtain ⟨lf2, hlf2⟩ : ∃ lf2, lf2 = 8 * pl.length - (p + 8 * (groups nk).length) := ⟨_, rfl⟩
                rw [← hlf2] at hlq
                have HL2 : Hid ((((8 * pl.length - (p + 8 * (groups nk).length) : Nat) : Int)) = (lf2 : Int)) := by show _ = _; rw [hlf2]
                have hq0 : IntKind.i64.wrap ((lf : Int) - (lf2 : Int)) = 8 * ((groups nk).length : Int) := by rw [hlq, IntKind.wrap_i64]; omega
                have hq0b : IntKind.i64.wrap (8 * ((groups nk).length : Int)) = 8 * ((groups nk).length : Int) := by rw [IntKind.wrap_i64]; omega
                have hq1 : ((8 * ((groups nk).length : Int)) != (8 * ((groups nk).length : Int))) = false := by simp
                have hq2 : ((nk : Int) != (nk : Int)) = false := by simp
                have hb1 : lf ≤ 9000000000 := by omega
                have hb2 : lf2 ≤ 9000000000 := by omega
                clear hlq hlf2
                go_wp2
                go_region_held3 (fun w' => w'.cell? ⟨wr.heap.size, 1, none⟩ = some (.int .u64 (nk : Int))) (first | go_keep | (rw [hw14]; exact p1) | (exact cell_later hb15 p1)) (first | (go_at_call 31; refine (left_is br vr pl (p + 8 * (groups nk).length) (lf2 : Int) _ ?_ HL2.out).mono ?_; exact HR13.out.drewN 1; rintro e w14 ⟨rfl, q14, hw14⟩) | (go_at_call 33; refine (groups_any nk _ hNk.out).mono ?_; rintro e w15 ⟨rv15, rfl, hrv15, hb15⟩; obtain ⟨ro15, rc15, hv15, _, _⟩ := SeenAt.of_row hrv15 (by omega); rw [hv15]))
                have HFZ : Hid (Fr (fun k => k = br) wr w15) := (HF13.out.drewN (1 + q14)).trans (Fr.of_below hb15 (fun k => k = br)) (fun _ _ hh => hh)
                have HRZ : Hid (RAt w15 br vr pl (p + 8 * (groups nk).length)) := (HR13.out.drewN (1 + q14)).kept (Fr.of_below hb15 (fun _ => False)) (fun hh => hh) (fun _ _ hh => hh)
                have p15 : w15.cell? ⟨wr.heap.size, 1, none⟩ = some (.int .u64 (nk : Int)) := cell_later hb15 p1
                have HBZ : Hid (Below (B + 1) w1 w15) := HBB.out.trans (HFZ.out.below (by have := HBB.out.size; have := HB.out; omega) (fun k hk e => by have := hrB.out; omega))
                have HDZ : Hid (w15.ownsRow 0 36 3 (.slice (some ⟨g, 0, none⟩) l.length dcap) l.length (opCells l)) := row_keptS HDV.out HFZ.out (fun k hk e => row_off HDV.out HR.out.blk (by omega) (by rw [hk, e]))
                clear HF13 HR13 HFZ hb15 hw14 hrv15
                go_wp2_with fail
                go_roundw
                case rel => exact ⟨j + 1, by omega, congrArg (Value.int .i64) (by omega), by rw [HPN.out]; exact HRZ.out, HBZ.out, HDZ.out⟩
                case measure => simp [intOf]; omega
              · have hkd1 : (kd == 1) = false := by simp; omega
                have HBP := back_align l j nk kd dk HLJ.out hk0 hk1'
                rw [hple, hpe] at HBP
                obtain ⟨pn, hpn⟩ : ∃ pn, pn = (opsBits (l.take (j + 1))).length := ⟨_, rfl⟩
                rw [← hpn] at HBP
                have HRP : Hid (rpad pl p = (0, 0, pn)) := HBP.1
                have HPN : Hid ((opsBits (l.take (j + 1))).length = pn) := hpn.symm
                clear HBP hple hpe hpn
                obtain ⟨w11, hw11⟩ : ∃ w11, w11 = wr.alloc (.cells #[.int .i64 kd, .int .u64 nk, .int .i64 dk] 36) := ⟨_, rfl⟩
                have HR11 : Hid (RAt w11 br vr pl p) := by rw [hw11]; exact HR.out.kept ((Fr.refl (fun _ => False) _).alloc _) (fun hh => hh) (fun _ _ hh => hh)
                have HF11 : Hid (Fr (fun k => k = br) wr w11) := by rw [hw11]; exact (Fr.refl _ _).alloc _
                have hob : w11.heap[wr.heap.size]? = some (.cells #[.int .i64 kd, .int .u64 nk, .int .i64 dk] 36 (0, 0)) := by rw [hw11]; exact heap_alloc_new _ _
                obtain ⟨o0, o1, o2, of⟩ := cell_of_three hob
                have HW11 : Hid (w11 = wr.alloc (.cells #[.int .i64 kd, .int .u64 nk, .int .i64 dk] 36)) := hw11
                have HBR : Hid (br < wr.heap.size) := HR.out.lt
                clear hw11 hob o0 o1 o2 of
                go_wp2_with fail
                rw [← HW11.out]
                refine (left_any br vr pl p _ HR11.out).mono ?_
                rintro e w12 ⟨rfl, q12, hw12⟩
                have HR12 : Hid (RAt w12 br vr pl p) := by rw [hw12]; exact HR11.out.drewN q12
                have HF12 : Hid (Fr (fun k => k = br) wr w12) := by rw [hw12]; exact HF11.out.drewN q12
                have hob : w12.heap[wr.heap.size]? = some (.cells #[.int .i64 kd, .int .u64 nk, .int .i64 dk] 36 (0, 0)) := by rw [hw12]; show w11.heap[wr.heap.size]? = _; rw [HW11.out]; exact heap_alloc_new _ _
                obtain ⟨o0, o1, o2, of⟩ := cell_of_three hob
                clear hw12 HR11 HF11 hob
                go_wp2_with fail
                refine (ralign_any br vr pl p 0 0 pn _ HR12.out HRP).mono ?_
                rintro e w13 ⟨rfl, hr13, hf13⟩
                rw [backTo_ok] at hr13
                have HRZ : Hid (RAt w13 br vr pl pn) := hr13
                have hO : ∀ j x, w12.cell? ⟨wr.heap.size, j, none⟩ = some x → w13.cell? ⟨wr.heap.size, j, none⟩ = some x := fun j x hx => hf13.cell hx (by have := HBR.out; omega)
                have p0 := hO _ _ o0
                have p1 := hO _ _ o1
                have p2 := hO _ _ o2
                have HFZ : Hid (Fr (fun k => k = br) wr w13) := HF12.out.trans hf13 (fun _ _ hh => hh)
                clear hO o0 o1 o2 of hf13 HF12 HR12
                clear hr13
                have hq2 : ((nk : Int) != (nk : Int)) = false := by simp
                have HBZ : Hid (Below (B + 1) w1 w13) := HBB.out.trans (HFZ.out.below (by have := HBB.out.size; have := HB.out; omega) (fun k hk e => by have := hrB.out; omega))
                have HDZ : Hid (w13.ownsRow 0 36 3 (.slice (some ⟨g, 0, none⟩) l.length dcap) l.length (opCells l)) := row_keptS HDV.out HFZ.out (fun k hk e => row_off HDV.out HR.out.blk (by omega) (by rw [hk, e]))
                clear HFZ
                go_wp2_with fail
                go_roundw
                case rel => exact ⟨j + 1, by omega, congrArg (Value.int .i64) (by omega), by rw [HPN.out]; exact HRZ.out, HBZ.out, HDZ.out⟩
                case measure => simp [intOf]; omega
          · have hjn : j = l.length := by omega
            have HRE : Hid (RAt wr br vr pl (opsBits l).length) := by
              have := hr
              rw [List.take_of_length_le (by omega)] at this; exact this
            clear hr hbel hdv HR6 HB6 HD6
            subst hjn
            have HBE2 : Hid (rpad pl (opsBits l).length = (0, 0, 8 * pl.length)) := by
              have := back_end (opsBits l)
              rw [HPLE.out] at this; exact this
            have HPL2 : Hid (8 * pl.length - (opsBits l).length = (8 - (opsBits l).length % 8) % 8) := by have := HPL.out; show _ = _; omega
            generalize (opsBits l).length = nn at *
            go_wp2_with fail
            refine (left_is br vr pl nn ((8 - (nn : Int) % 8) % 8) _ HRE.out (by rw [HPL2.out]; omega)).mono ?_
            rintro e w20 ⟨rfl, q20, hw20⟩
            have HR20 : Hid (RAt w20 br vr pl nn) := by rw [hw20]; exact HRE.out.drewN q20
            have HB20 : Hid (Below (B + 1) w1 w20) := by rw [hw20]; exact below_drewN HBB.out q20
            have hq1 : (((8 - (nn : Int) % 8) % 8) == ((8 - (nn : Int) % 8) % 8)) = true := by simp
            clear hw20 HRE HBB
            go_wp2_with fail
            refine (ralign_any br vr pl nn 0 0 (8 * pl.length) _ HR20.out HBE2).mono ?_
            rintro e w21 ⟨rfl, hr21, hf21⟩
            rw [backTo_ok] at hr21
            have HR21 : Hid (RAt w21 br vr pl (8 * pl.length)) := hr21
            have HB21 : Hid (Below (B + 1) w1 w21) := HB20.out.trans (hf21.below (by have := HB20.out.size; have := HB.out; omega) (fun k hk e => by have := hrB.out; omega))
            clear hr21 hf21 HR20 HB20
            go_wp2_with fail
            refine (left_is br vr pl (8 * pl.length) 0 _ HR21.out (by omega)).mono ?_
            rintro e w22 ⟨rfl, q22, hw22⟩
            have HB22 : Hid (Below (B + 1) w1 w22) := by rw [hw22]; exact below_drewN HB21.out q22
            clear hw22 HB21 HR21
            go_wp2_with fail
            refine (wakes_any _).mono ?_
            rintro e w23 ⟨rfl, hb23⟩
            have HB23 : Hid (Below B w w23) := by
              have h1 := HB1.out
              rw [← HBE.out] at h1
              exact h1.trans ((HB22.out.mono (by omega)).trans (hb23.mono (by have := HB22.out.size; have := HB.out; omega)))
            clear hb23
            go_wp2_with fail
            go_ret
            refine ⟨rfl, ?_⟩
            rw [← HBE.out]
            exact HB23.out
    · have hnot : ∀ (x : Bool) (w : World), (Op.unary .not (.bool x)).run Try.prog w = .ok (.bool (!x)) w := fun _ _ => rfl
      have hbsl : (opsBits l).length ≤ 24000 := by have := HOK.out.2.1; omega
      have hll : l.length ≤ 300 := by have := HOK.out.1; omega
      have HOK2 : Hid (∀ o ∈ l, opOk o) := HOK.out.2.2
      clear HOK hk2 hi hz0 hz1 hz2
      go_wp2_with fail
      clear x1
      refine (len_any (B + 1) v 67108864 (opsBits l) _ HT.out.ha.at_).mono ?_
      rintro e w4 ⟨rfl, hw4⟩
      subst hw4
      go_wp2_with fail
      refine (bytes_any (B + 1) v 67108864 (opsBits l) _ HT.out.ha.at_).mono ?_
      rintro e w5 ⟨rv, rfl, hrv, hb5⟩
      have HT5 : Hid (WD (B + 1) w1 w5 (B + 1) v dv 67108864 (opsBits l) l) := HT.out.later (Fr.of_below hb5 _)
      have HRV0 : Hid (BytesAt w5 _ rv (pack (opsBits l))) := hrv
      have hpl : (pack (opsBits l)).length ≤ 3001 := by rw [length_pack]; omega
      have HPB : Hid (∀ x ∈ pack (opsBits l), x < 256) := pack_lt _
      have HPL : Hid ((pack (opsBits l)).length = ((opsBits l).length + 7) / 8) := length_pack _
      clear hrv hb5 HT
      go_wp2_with fail
      refine (newR_row rv _ (pack (opsBits l)) _ HRV0.out (by omega) HPB.out).mono ?_
      rintro e w6 ⟨br, vr, rfl, hr6, hb6, hbr6, hrr6⟩
      have HT6 : Hid (WD (B + 1) w1 w6 (B + 1) v dv 67108864 (opsBits l) l) := HT5.out.later (Fr.of_below hb6 _)
      have HR6 : Hid (RAt w6 br vr (pack (opsBits l)) 0) := hr6
      have hrB : Hid (B + 1 ≤ br) := Nat.le_trans HT5.out.ha.size hbr6
      clear hr6 hb6 hbr6 hrr6 HT5 HRV0
      obtain ⟨dao, dcap, hdv2, hdg, hdm⟩ := row_shape HT6.out.hd
      have HDG : Hid (0 < l.length → ∃ g, dao = some ⟨g, 0, none⟩) := hdg
      have HD6 : Hid (w6.ownsRow 0 36 3 (.slice dao l.length dcap) l.length (opCells l)) := by rw [← hdv2]; exact HT6.out.hd
      have HB6 : Hid (Below (B + 1) w1 w6) := HT6.out.ha.bel
      rw [hdv2]
      clear hdv2 hdg HT6
      unfold maxLen at hdm
      generalize hple : pack (opsBits l) = pl at hpl HPB HPL HR6
      have HPLE : Hid (pack (opsBits l) = pl) := hple
      clear hple
      go_wp2_with fail
      go_loopw [11, 12, 13, 14, 15] (fun i _ _ _ _ wr => ∃ j : Nat, j ≤ l.length ∧ i = .int .i64 j ∧ RAt wr br vr pl (opsBits (l.take j)).length ∧ Below (B + 1) w1 wr ∧ wr.ownsRow 0 36 3 (.slice dao l.length dcap) l.length (opCells l)) (fun i _ _ _ _ _ => l.length - (intOf i).toNat)
      case atStart => exact ⟨0, Nat.zero_le _, rfl, HR6.out, HB6.out, HD6.out⟩
      case round =>
        obtain ⟨j, hj, rfl, hr, hbel, hdv⟩ := hrel
        have HBB : Hid (Below (B + 1) w1 wr) := hbel
        by_cases hjl : j < l.length
        · obtain ⟨g, rfl⟩ := HDG.out (by omega)
          have HDV : Hid (wr.ownsRow 0 36 3 (.slice (some ⟨g, 0, none⟩) l.length dcap) l.length (opCells l)) := hdv
          obtain ⟨⟨kd, nk, dk⟩, ho⟩ : ∃ o, l[j]? = some o := ⟨_, List.getElem?_eq_getElem hjl⟩
          have hok : opOk (kd, nk, dk) := HOK2.out _ (List.mem_of_getElem? ho)
          obtain ⟨z0, z1, z2⟩ := opCells_get l j (kd, nk, dk) ho
          have c0 : wr.cell? ⟨g, j * 3, none⟩ = some (.int .i64 kd) := by rw [hdv.cellAt (j * 3) (by omega)]; exact z0
          have c1 : wr.cell? ⟨g, j * 3 + 1, none⟩ = some (.int .u64 (nk : Int)) := by rw [hdv.cellAt (j * 3 + 1) (by omega)]; exact z1
          have c2 : wr.cell? ⟨g, j * 3 + 2, none⟩ = some (.int .i64 dk) := by rw [hdv.cellAt (j * 3 + 2) (by omega)]; exact z2
          have HLJ : Hid (l[j]? = some (kd, nk, dk)) := ho
          have hNk : Hid (nk < 18446744073709551616) := hok.1
          have HVO : Hid (kd = 0 → 0 ≤ dk ∧ dk ≤ 64 ∧ nk < 2 ^ dk.toNat) := hok.2
          have hple := HPLE.out
          obtain ⟨p, hpe⟩ : ∃ p, (opsBits (l.take j)).length = p := ⟨_, rfl⟩
          rw [hpe] at hr
          have HR : Hid (RAt wr br vr pl p) := hr
          have hple2 : p ≤ 8 * pl.length := hr.le
          clear hr hbel hdv hok z0 z1 z2 ho HR6 HB6 HD6
          by_cases hk0 : kd = 0
          · subst hk0
            obtain ⟨wd, hwd⟩ : ∃ wd : Nat, dk = wd := ⟨dk.toNat, by have := HVO.out rfl; omega⟩
            subst hwd
            have hwl : wd ≤ 64 := by have := HVO.out rfl; omega
            have HVL : Hid (nk < 2 ^ wd) := by have := (HVO.out rfl).2.2; show nk < 2 ^ wd; simpa using this
            clear HVO
            have HBP := back_put l j nk wd HLJ.out HVL.out
            rw [hple, hpe] at HBP
            have HNB : Hid (num (nextBits pl p wd) = nk) := HBP.1
            have hrm : p + wd ≤ 8 * pl.length := HBP.2.1
            have HPN : Hid ((opsBits (l.take (j + 1))).length = p + wd) := HBP.2.2
            clear HBP hple hpe
            obtain ⟨w11, hw11⟩ : ∃ w11, w11 = wr.alloc (.cells #[.int .i64 0, .int .u64 nk, .int .i64 (wd : Int)] 36) := ⟨_, rfl⟩
            have HR11 : Hid (RAt w11 br vr pl p) := by rw [hw11]; exact HR.out.kept ((Fr.refl (fun _ => False) _).alloc _) (fun hh => hh) (fun _ _ hh => hh)
            have HF11 : Hid (Fr (fun k => k = br) wr w11) := by rw [hw11]; exact (Fr.refl _ _).alloc _
            have hob : w11.heap[wr.heap.size]? = some (.cells #[.int .i64 0, .int .u64 nk, .int .i64 (wd : Int)] 36 (0, 0)) := by rw [hw11]; exact heap_alloc_new _ _
            obtain ⟨o0, o1, o2, of⟩ := cell_of_three hob
            have HW11 : Hid (w11 = wr.alloc (.cells #[.int .i64 0, .int .u64 nk, .int .i64 (wd : Int)] 36)) := hw11
            have HBR : Hid (br < wr.heap.size) := HR.out.lt
            clear hw11 hob o0 o1 o2 of
            go_wp2_with fail
            rw [← HW11.out]
            refine (left_any br vr pl p _ HR11.out).mono ?_
            rintro e w12 ⟨rfl, q12, hw12⟩
            have HR12 : Hid (RAt w12 br vr pl p) := by rw [hw12]; exact HR11.out.drewN q12
            have HF12 : Hid (Fr (fun k => k = br) wr w12) := by rw [hw12]; exact HF11.out.drewN q12
            have hob : w12.heap[wr.heap.size]? = some (.cells #[.int .i64 0, .int .u64 nk, .int .i64 (wd : Int)] 36 (0, 0)) := by rw [hw12]; show w11.heap[wr.heap.size]? = _; rw [HW11.out]; exact heap_alloc_new _ _
            obtain ⟨o0, o1, o2, of⟩ := cell_of_three hob
            clear hw12 HR11 HF11 hob
            go_wp2_with fail
            refine (take_any br vr pl p wd _ HR12.out hwl hrm).mono ?_
            rw [HNB.out]
            rintro e w13 ⟨rfl, hr13, hf13⟩
            have HR13 : Hid (RAt w13 br vr pl (p + wd)) := hr13
            have hO : ∀ j x, w12.cell? ⟨wr.heap.size, j, none⟩ = some x → w13.cell? ⟨wr.heap.size, j, none⟩ = some x := fun j x hx => hf13.cell hx (by have := HBR.out; omega)
            have p0 := hO _ _ o0
            have p1 := hO _ _ o1
            have p2 := hO _ _ o2
            have HF13 : Hid (Fr (fun k => k = br) wr w13) := HF12.out.trans hf13 (fun _ _ hh => hh)
            clear hO o0 o1 o2 of hf13 HF12 HR12
            clear hr13
            have hlq : ((8 * pl.length - p : Nat) : Int) - ((8 * pl.length - (p + wd) : Nat) : Int) = (wd : Int) := by omega
            generalize 8 * pl.length - p = lf at hlq ⊢
            obtain ⟨lf2, hlf2⟩ : ∃ lf2, lf2 = 8 * pl.length - (p + wd) := ⟨_, rfl⟩
            rw [← hlf2] at hlq
            have HL2 : Hid ((((8 * pl.length - (p + wd) : Nat) : Int)) = (lf2 : Int)) := by show _ = _; rw [hlf2]
            have hq0 : IntKind.i64.wrap ((lf : Int) - (lf2 : Int)) = (wd : Int) := by rw [hlq, IntKind.wrap_i64]; omega
            have hq1 : ((wd : Int) != (wd : Int)) = false := by simp
            have hq2 : ((nk : Int) != (nk : Int)) = false := by simp
            have hb1 : lf ≤ 9000000000 := by omega
            have hb2 : lf2 ≤ 9000000000 := by omega
            clear hlq hlf2
            go_wp2
            go_region_held3 (fun w' => w'.cell? ⟨wr.heap.size, 2, none⟩ = some (.int .i64 (wd : Int))) (first | go_keep | (rw [hw14]; exact p2)) (first | (go_at_call 31; refine (left_is br vr pl (p + wd) (lf2 : Int) _ ?_ HL2.out).mono ?_; exact HR13.out.drewN 1; rintro e w14 ⟨rfl, q14, hw14⟩))
            subst hw14
            have HRZ : Hid (RAt (w13.drewN (1 + q14)) br vr pl (p + wd)) := HR13.out.drewN (1 + q14)
            have HFZ : Hid (Fr (fun k => k = br) wr (w13.drewN (1 + q14))) := HF13.out.drewN (1 + q14)
            have HBZ : Hid (Below (B + 1) w1 (w13.drewN (1 + q14))) := HBB.out.trans (HFZ.out.below (by have := HBB.out.size; have := HB.out; omega) (fun k hk e => by have := hrB.out; omega))
            have HDZ : Hid ((w13.drewN (1 + q14)).ownsRow 0 36 3 (.slice (some ⟨g, 0, none⟩) l.length dcap) l.length (opCells l)) := row_keptS HDV.out HFZ.out (fun k hk e => row_off HDV.out HR.out.blk (by omega) (by rw [hk, e]))
            clear HF13 HR13 HFZ
            go_wp2_with fail
            go_roundw
            case rel => exact ⟨j + 1, by omega, congrArg (Value.int .i64) (by omega), by rw [HPN.out]; exact HRZ.out, HBZ.out, HDZ.out⟩
            case measure => simp [intOf]; omega
          · have hkd0 : (kd == 0) = false := by simp; omega
            clear HVO
            by_cases hk1' : kd = 1
            · subst hk1'
              have HBP := back_var l j nk dk HLJ.out hNk.out
              rw [hple, hpe] at HBP
              have HRV : Hid (rvar pl p = (nk, 0, p + 8 * (groups nk).length)) := HBP.1
              have hrm : p + 8 * (groups nk).length ≤ 8 * pl.length := HBP.2.1
              have HPN : Hid ((opsBits (l.take (j + 1))).length = p + 8 * (groups nk).length) := HBP.2.2
              have hgl := length_groups_u64 nk hNk.out
              have hgp : 0 < (groups nk).length := by rw [len_cnt]; omega
              clear HBP hple hpe
              obtain ⟨w11, hw11⟩ : ∃ w11, w11 = wr.alloc (.cells #[.int .i64 1, .int .u64 nk, .int .i64 dk] 36) := ⟨_, rfl⟩
              have HR11 : Hid (RAt w11 br vr pl p) := by rw [hw11]; exact HR.out.kept ((Fr.refl (fun _ => False) _).alloc _) (fun hh => hh) (fun _ _ hh => hh)
              have HF11 : Hid (Fr (fun k => k = br) wr w11) := by rw [hw11]; exact (Fr.refl _ _).alloc _
              have hob : w11.heap[wr.heap.size]? = some (.cells #[.int .i64 1, .int .u64 nk, .int .i64 dk] 36 (0, 0)) := by rw [hw11]; exact heap_alloc_new _ _
              obtain ⟨o0, o1, o2, of⟩ := cell_of_three hob
              have HW11 : Hid (w11 = wr.alloc (.cells #[.int .i64 1, .int .u64 nk, .int .i64 dk] 36)) := hw11
              have HBR : Hid (br < wr.heap.size) := HR.out.lt
              clear hw11 hob o0 o1 o2 of
              go_wp2_with fail
              rw [← HW11.out]
              refine (left_any br vr pl p _ HR11.out).mono ?_
              rintro e w12 ⟨rfl, q12, hw12⟩
              have HR12 : Hid (RAt w12 br vr pl p) := by rw [hw12]; exact HR11.out.drewN q12
              have HF12 : Hid (Fr (fun k => k = br) wr w12) := by rw [hw12]; exact HF11.out.drewN q12
              have hob : w12.heap[wr.heap.size]? = some (.cells #[.int .i64 1, .int .u64 nk, .int .i64 dk] 36 (0, 0)) := by rw [hw12]; show w11.heap[wr.heap.size]? = _; rw [HW11.out]; exact heap_alloc_new _ _
              obtain ⟨o0, o1, o2, of⟩ := cell_of_three hob
              clear hw12 HR11 HF11 hob
              go_wp2_with fail
              refine (rvar_any br vr pl p nk 0 (p + 8 * (groups nk).length) _ HR12.out HRV).mono ?_
              rintro e w13 ⟨rfl, hr13, hf13⟩
              rw [backTo_ok] at hr13
              have HR13 : Hid (RAt w13 br vr pl (p + 8 * (groups nk).length)) := hr13
              have hO : ∀ j x, w12.cell? ⟨wr.heap.size, j, none⟩ = some x → w13.cell? ⟨wr.heap.size, j, none⟩ = some x := fun j x hx => hf13.cell hx (by have := HBR.out; omega)
              have p0 := hO _ _ o0
              have p1 := hO _ _ o1
              have p2 := hO _ _ o2
              have HF13 : Hid (Fr (fun k => k = br) wr w13) := HF12.out.trans hf13 (fun _ _ hh => hh)
              clear hO o0 o1 o2 of hf13 HF12 HR12
              clear hr13
              have hlq : ((8 * pl.length - p : Nat) : Int) - ((8 * pl.length - (p + 8 * (groups nk).length) : Nat) : Int) = 8 * ((groups nk).length : Int) := by omega
              generalize 8 * pl.length - p = lf at hlq ⊢
              obtain ⟨lf2, hlf2⟩ : ∃ lf2, lf2 = 8 * pl.length - (p + 8 * (groups nk).length) := ⟨_, rfl⟩
              rw [← hlf2] at hlq
              have HL2 : Hid ((((8 * pl.length - (p + 8 * (groups nk).length) : Nat) : Int)) = (lf2 : Int)) := by show _ = _; rw [hlf2]
              have hq0 : IntKind.i64.wrap ((lf : Int) - (lf2 : Int)) = 8 * ((groups nk).length : Int) := by rw [hlq, IntKind.wrap_i64]; omega
              have hq0b : IntKind.i64.wrap (8 * ((groups nk).length : Int)) = 8 * ((groups nk).length : Int) := by rw [IntKind.wrap_i64]; omega
              have hq1 : ((8 * ((groups nk).length : Int)) != (8 * ((groups nk).length : Int))) = false := by simp
              have hq2 : ((nk : Int) != (nk : Int)) = false := by simp
              have hb1 : lf ≤ 9000000000 := by omega
              have hb2 : lf2 ≤ 9000000000 := by omega
              clear hlq hlf2
              go_wp2
              go_region_held3 (fun w' => w'.cell? ⟨wr.heap.size, 1, none⟩ = some (.int .u64 (nk : Int))) (first | go_keep | (rw [hw14]; exact p1) | (exact cell_later hb15 p1)) (first | (go_at_call 31; refine (left_is br vr pl (p + 8 * (groups nk).length) (lf2 : Int) _ ?_ HL2.out).mono ?_; exact HR13.out.drewN 1; rintro e w14 ⟨rfl, q14, hw14⟩) | (go_at_call 33; refine (groups_any nk _ hNk.out).mono ?_; rintro e w15 ⟨rv15, rfl, hrv15, hb15⟩; obtain ⟨ro15, rc15, hv15, _, _⟩ := SeenAt.of_row hrv15 (by omega); rw [hv15]))
              have HFZ : Hid (Fr (fun k => k = br) wr w15) := (HF13.out.drewN (1 + q14)).trans (Fr.of_below hb15 (fun k => k = br)) (fun _ _ hh => hh)
              have HRZ : Hid (RAt w15 br vr pl (p + 8 * (groups nk).length)) := (HR13.out.drewN (1 + q14)).kept (Fr.of_below hb15 (fun _ => False)) (fun hh => hh) (fun _ _ hh => hh)
              have p15 : w15.cell? ⟨wr.heap.size, 1, none⟩ = some (.int .u64 (nk : Int)) := cell_later hb15 p1
              have HBZ : Hid (Below (B + 1) w1 w15) := HBB.out.trans (HFZ.out.below (by have := HBB.out.size; have := HB.out; omega) (fun k hk e => by have := hrB.out; omega))
              have HDZ : Hid (w15.ownsRow 0 36 3 (.slice (some ⟨g, 0, none⟩) l.length dcap) l.length (opCells l)) := row_keptS HDV.out HFZ.out (fun k hk e => row_off HDV.out HR.out.blk (by omega) (by rw [hk, e]))
              clear HF13 HR13 HFZ hb15 hw14 hrv15
              go_wp2_with fail
              go_roundw
              case rel => exact ⟨j + 1, by omega, congrArg (Value.int .i64) (by omega), by rw [HPN.out]; exact HRZ.out, HBZ.out, HDZ.out⟩
              case measure => simp [intOf]; omega
            · have hkd1 : (kd == 1) = false := by simp; omega
              have HBP := back_align l j nk kd dk HLJ.out hk0 hk1'
              rw [hple, hpe] at HBP
              obtain ⟨pn, hpn⟩ : ∃ pn, pn = (opsBits (l.take (j + 1))).length := ⟨_, rfl⟩
              rw [← hpn] at HBP
              have HRP : Hid (rpad pl p = (0, 0, pn)) := HBP.1
              have HPN : Hid ((opsBits (l.take (j + 1))).length = pn) := hpn.symm
              clear HBP hple hpe hpn
              obtain ⟨w11, hw11⟩ : ∃ w11, w11 = wr.alloc (.cells #[.int .i64 kd, .int .u64 nk, .int .i64 dk] 36) := ⟨_, rfl⟩
              have HR11 : Hid (RAt w11 br vr pl p) := by rw [hw11]; exact HR.out.kept ((Fr.refl (fun _ => False) _).alloc _) (fun hh => hh) (fun _ _ hh => hh)
              have HF11 : Hid (Fr (fun k => k = br) wr w11) := by rw [hw11]; exact (Fr.refl _ _).alloc _
              have hob : w11.heap[wr.heap.size]? = some (.cells #[.int .i64 kd, .int .u64 nk, .int .i64 dk] 36 (0, 0)) := by rw [hw11]; exact heap_alloc_new _ _
              obtain ⟨o0, o1, o2, of⟩ := cell_of_three hob
              have HW11 : Hid (w11 = wr.alloc (.cells #[.int .i64 kd, .int .u64 nk, .int .i64 dk] 36)) := hw11
              have HBR : Hid (br < wr.heap.size) := HR.out.lt
              clear hw11 hob o0 o1 o2 of
              go_wp2_with fail
              rw [← HW11.out]
              refine (left_any br vr pl p _ HR11.out).mono ?_
              rintro e w12 ⟨rfl, q12, hw12⟩
              have HR12 : Hid (RAt w12 br vr pl p) := by rw [hw12]; exact HR11.out.drewN q12
              have HF12 : Hid (Fr (fun k => k = br) wr w12) := by rw [hw12]; exact HF11.out.drewN q12
              have hob : w12.heap[wr.heap.size]? = some (.cells #[.int .i64 kd, .int .u64 nk, .int .i64 dk] 36 (0, 0)) := by rw [hw12]; show w11.heap[wr.heap.size]? = _; rw [HW11.out]; exact heap_alloc_new _ _
              obtain ⟨o0, o1, o2, of⟩ := cell_of_three hob
              clear hw12 HR11 HF11 hob
              go_wp2_with fail
              refine (ralign_any br vr pl p 0 0 pn _ HR12.out HRP).mono ?_
              rintro e w13 ⟨rfl, hr13, hf13⟩
              rw [backTo_ok] at hr13
              have HRZ : Hid (RAt w13 br vr pl pn) := hr13
              have hO : ∀ j x, w12.cell? ⟨wr.heap.size, j, none⟩ = some x → w13.cell? ⟨wr.heap.size, j, none⟩ = some x := fun j x hx => hf13.cell hx (by have := HBR.out; omega)
              have p0 := hO _ _ o0
              have p1 := hO _ _ o1
              have p2 := hO _ _ o2
              have HFZ : Hid (Fr (fun k => k = br) wr w13) := HF12.out.trans hf13 (fun _ _ hh => hh)
              clear hO o0 o1 o2 of hf13 HF12 HR12
              clear hr13
              have hq2 : ((nk : Int) != (nk : Int)) = false := by simp
              have HBZ : Hid (Below (B + 1) w1 w13) := HBB.out.trans (HFZ.out.below (by have := HBB.out.size; have := HB.out; omega) (fun k hk e => by have := hrB.out; omega))
              have HDZ : Hid (w13.ownsRow 0 36 3 (.slice (some ⟨g, 0, none⟩) l.length dcap) l.length (opCells l)) := row_keptS HDV.out HFZ.out (fun k hk e => row_off HDV.out HR.out.blk (by omega) (by rw [hk, e]))
              clear HFZ
              go_wp2_with fail
              go_roundw
              case rel => exact ⟨j + 1, by omega, congrArg (Value.int .i64) (by omega), by rw [HPN.out]; exact HRZ.out, HBZ.out, HDZ.out⟩
              case measure => simp [intOf]; omega
        · have hjn : j = l.length := by omega
          have HRE : Hid (RAt wr br vr pl (opsBits l).length) := by
            have := hr
            rw [List.take_of_length_le (by omega)] at this; exact this
          clear hr hbel hdv HR6 HB6 HD6
          subst hjn
          have HBE2 : Hid (rpad pl (opsBits l).length = (0, 0, 8 * pl.length)) := by
            have := back_end (opsBits l)
            rw [HPLE.out] at this; exact this
          have HPL2 : Hid (8 * pl.length - (opsBits l).length = (8 - (opsBits l).length % 8) % 8) := by have := HPL.out; show _ = _; omega
          generalize (opsBits l).length = nn at *
          go_wp2_with fail
          refine (left_is br vr pl nn ((8 - (nn : Int) % 8) % 8) _ HRE.out (by rw [HPL2.out]; omega)).mono ?_
          rintro e w20 ⟨rfl, q20, hw20⟩
          have HR20 : Hid (RAt w20 br vr pl nn) := by rw [hw20]; exact HRE.out.drewN q20
          have HB20 : Hid (Below (B + 1) w1 w20) := by rw [hw20]; exact below_drewN HBB.out q20
          have hq1 : (((8 - (nn : Int) % 8) % 8) == ((8 - (nn : Int) % 8) % 8)) = true := by simp
          clear hw20 HRE HBB
          go_wp2_with fail
          refine (ralign_any br vr pl nn 0 0 (8 * pl.length) _ HR20.out HBE2).mono ?_
          rintro e w21 ⟨rfl, hr21, hf21⟩
          rw [backTo_ok] at hr21
          have HR21 : Hid (RAt w21 br vr pl (8 * pl.length)) := hr21
          have HB21 : Hid (Below (B + 1) w1 w21) := HB20.out.trans (hf21.below (by have := HB20.out.size; have := HB.out; omega) (fun k hk e => by have := hrB.out; omega))
          clear hr21 hf21 HR20 HB20
          go_wp2_with fail
          refine (left_is br vr pl (8 * pl.length) 0 _ HR21.out (by omega)).mono ?_
          rintro e w22 ⟨rfl, q22, hw22⟩
          have HB22 : Hid (Below (B + 1) w1 w22) := by rw [hw22]; exact below_drewN HB21.out q22
          clear hw22 HB21 HR21
          go_wp2_with fail
          refine (wakes_any _).mono ?_
          rintro e w23 ⟨rfl, hb23⟩
          have HB23 : Hid (Below B w w23) := by
            have h1 := HB1.out
            rw [← HBE.out] at h1
            exact h1.trans ((HB22.out.mono (by omega)).trans (hb23.mono (by have := HB22.out.size; have := HB.out; omega)))
          clear hb23
          go_wp2_with fail
          go_ret
          refine ⟨rfl, ?_⟩
          rw [← HBE.out]
          exact HB23.out

end Go.Proofs.Ythfimeaajboihaa
