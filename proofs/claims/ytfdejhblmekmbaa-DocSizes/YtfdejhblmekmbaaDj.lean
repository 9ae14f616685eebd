/- 'DocSizes' returns true. -/
import Derived.Test.YtfdejhblmekmbaaDi
namespace Go.Proofs.Ytfdejhblmekmbaa
set_option maxRecDepth 100000
open Go.RowKit

/-- Ints that a slice shows. -/
structure IntsAt (w : World) (ao : Option Addr) (n : Nat) (X : Nat → Int) : Prop where
  len : n ≤ 9223372036854775807
  cells : 0 < n → ∃ b off, ao = some ⟨b, off, none⟩ ∧ ∀ j, j < n → w.cell? ⟨b, off + j, none⟩ = some (.int .i64 (X j))
  bound : ∀ j, j < n → -9223372036854775808 ≤ X j ∧ X j ≤ 9223372036854775807

theorem cell_lt {w : World} {b o : Nat} {v : Value} (h : w.cell? ⟨b, o, none⟩ = some v) : b < w.heap.size := by
  unfold World.cell? at h
  rcases Nat.lt_or_ge b w.heap.size with h1 | h1
  · exact h1
  · rw [Array.getElem?_eq_none h1] at h; simp at h

/-- What stands while pages are added. -/
structure Lp (w1 wr : World) (d np A : Nat) (pv sv : Value) (ps ss : List Value) : Prop where
  doc : DocAt wr d d pv sv ps ss
  hnp : ps.length = np
  ns : ss.length = np
  le : np ≤ 64
  ar : A ≤ 4194304
  fr : Fr (fun k => d ≤ k) w1 wr

set_option maxHeartbeats 8000000 in
theorem docSizes_any (ao bo : Option Addr) (n m ca cb : Nat) (X Y : Nat → Int) (w : World) (ha : IntsAt w ao n X) (hb : IntsAt w bo m Y) :
    Calls Try.prog 3 #[.agg #[.slice ao n ca, .slice bo m cb]] w fun e w' => e = .returned (.bool true) ∧ Fr (fun _ => False) w w' := by
  have HX : Hid (IntsAt w ao n X) := ha
  have HY : Hid (IntsAt w bo m Y) := hb
  have hn1 := ha.len
  have hm1 := hb.len
  clear ha hb
  go_enter Try.func3, Try.ntmps3
  go_wp2_with fail
  refine (docNew_any _).mono ?_
  rintro e w1 ⟨rfl, hw1⟩
  have HL0 : Hid (Lp w1 w1 (w.heap.size + 1) 0 0 (.slice none 0 0) (.slice none 0 0) [] []) := by
    have h := DocAt.new (w.alloc (.cells #[.slice ao n ca, .slice bo m cb] 24))
    rw [World.size_alloc, ← hw1] at h
    exact ⟨h, rfl, rfl, by omega, by omega, Fr.refl _ _⟩
  have HF1 : Hid (Fr (fun _ => False) w w1) := by rw [hw1]; exact ((Fr.refl _ _).alloc _).alloc _
  have HB1 : Hid (w1.heap[w.heap.size]? = some (.cells #[.slice ao n ca, .slice bo m cb] 24 (0, 0))) := by
    show _ = _
    rw [hw1]; exact heap_alloc2_old w _ _
  rw [World.size_alloc]
  clear hw1
  obtain ⟨d, HDD⟩ : ∃ d, Hid (d = w.heap.size + 1) := ⟨_, rfl⟩
  rw [← HDD.out] at HL0 ⊢
  go_wp2_with fail
  go_loopw [4, 5, 6] (fun pg ar i wr => ∃ (k np A : Nat) (pv sv : Value) (ps ss : List Value), k ≤ n ∧ k ≤ m ∧ k ≤ 100 ∧ pg = .int .i64 np ∧ ar = .int .i64 A ∧ i = .int .i64 k ∧ Lp w1 wr d np A pv sv ps ss) (fun _ _ i _ => 100 - (intOf i).toNat)
  case atStart => exact ⟨0, 0, 0, _, _, _, _, Nat.zero_le _, Nat.zero_le _, Nat.zero_le _, rfl, rfl, rfl, HL0.out⟩
  case round =>
    obtain ⟨k, np, A, pv, sv, ps, ss, hk1, hk2, hk3, rfl, rfl, rfl, hlp⟩ := hrel
    have HL : Hid (Lp w1 wr d np A pv sv ps ss) := hlp
    have hB : wr.heap[w.heap.size]? = some (.cells #[.slice ao n ca, .slice bo m cb] 24 (0, 0)) := by
      rw [hlp.fr.block w.heap.size (lt_of_block HB1.out) (fun hh => by have := HDD.out; omega)]; exact HB1.out
    obtain ⟨c0, c1, _⟩ := cell_of_two hB
    have hnp := hlp.le
    have har := hlp.ar
    clear hlp hB
    by_cases hlt : k < n ∧ k < m ∧ k < 100
    · obtain ⟨hl1, hl2, hl3⟩ := hlt
      obtain ⟨b1, o1, rfl, hc1⟩ := HX.out.cells (by omega)
      obtain ⟨b2, o2, rfl, hc2⟩ := HY.out.cells (by omega)
      have hx := HX.out.bound k hl1
      have hy := HY.out.bound k hl2
      have hold : ∀ b o v, w.cell? ⟨b, o, none⟩ = some v → wr.cell? ⟨b, o, none⟩ = some v := fun b o v h => by
        have hb := cell_lt h
        rw [HL.out.fr.cell (Nat.lt_of_lt_of_le hb HF1.out.size) (fun hh => by have := HDD.out; omega), HF1.out.cell hb (fun hh => hh)]; exact h
      have e1 : wr.cell? ⟨b1, o1 + k, none⟩ = some (.int .i64 (X k)) := hold _ _ _ (hc1 k hl1)
      have e2 : wr.cell? ⟨b2, o2 + k, none⟩ = some (.int .i64 (Y k)) := hold _ _ _ (hc2 k hl2)
      clear hc1 hc2 hold
      generalize X k = x at *
      generalize Y k = y at *
      by_cases hs : sizeOK x y = true
      · have hss := hs
        unfold sizeOK at hss
        obtain ⟨h1, h2, h3⟩ := of_decide_eq_true hss
        obtain ⟨W, rfl⟩ : ∃ W : Nat, x = W := ⟨x.toNat, by omega⟩
        obtain ⟨H, rfl⟩ : ∃ H : Nat, y = H := ⟨y.toNat, by omega⟩
        have h3' : W * H ≤ 1048576 := by have := h3; rw [← Int.natCast_mul] at this; omega
        obtain ⟨f1, f2, f3⟩ := size_facts (show 1 ≤ W by omega) (show 1 ≤ H by omega) h3'
        have HA : Hid (W * H ≤ 1048576) := h3'
        obtain ⟨T, HT⟩ : ∃ T, Hid (T = W * H) := ⟨_, rfl⟩
        have hT : (W : Int) * (H : Int) = (T : Int) := by rw [HT.out]; push_cast; rfl
        have hTle : T ≤ 1048576 := by rw [HT.out]; exact h3'
        clear hss h3 h3' f3
        have hW1 : 1 ≤ W := by omega
        have hH1 : 1 ≤ H := by omega
        by_cases hov : 4194304 < A + T + 64 * H
        · go_wp2_with fail
          refine (zSize_any _ _ _ hx hy).mono ?_
          rintro e w2 ⟨rfl, rfl⟩
          rw [hs]
          go_wp2_with fail
          all_goals
            refine (wakes_any _).mono ?_
            rintro e w9 ⟨rfl, hf9⟩
            have HF9 : Hid (Fr (fun _ => False) w w9) := (HF1.out.trans (HL.out.fr.trans hf9 (fun _ _ hh => hh.elim)) (fun i hi hh => by have := HDD.out; omega))
            clear hf9
            go_wp2_with fail
            go_ret
            exact ⟨rfl, HF9.out⟩
        · go_wp2_with fail
          refine (zSize_any _ _ _ hx hy).mono ?_
          rintro e w2 ⟨rfl, rfl⟩
          rw [hs]
          go_wp2_with fail
          by_cases h64 : np = 64
          · refine (newPage_full d d pv sv ps ss W H _ HL.out.doc (by rw [HL.out.hnp]; omega) hx hy hs).mono ?_
            rintro e w3 ⟨rfl, hf3⟩
            have HL3 : Hid (Lp w1 w3 d np (A + T + 64 * H) pv sv ps ss) := ⟨HL.out.doc.kept hf3 (fun h => h) (fun _ _ h => h) (fun _ _ h => h), HL.out.hnp, HL.out.ns, HL.out.le, by omega, HL.out.fr.trans hf3 (fun _ _ h => h.elim)⟩
            subst h64
            clear hf3 e1 e2 c0 c1
            go_wp2_with fail
            refine (pages_any d d pv sv ps ss _ HL3.out.doc).mono ?_
            rintro e w4 ⟨rfl, rfl⟩
            rw [HL3.out.hnp]
            go_wp2_with fail
            go_roundw
            case rel => exact ⟨k + 1, 64, (A + T + 64 * H), _, _, _, _, by omega, by omega, by omega, congrArg (Value.int .i64) (by omega), congrArg (Value.int .i64) (by omega), congrArg (Value.int .i64) (by omega), HL3.out⟩
            case measure => simp [intOf]; omega
          · refine (newPage_yes d d W H pv sv ps ss _ HL.out.doc (by rw [HL.out.hnp]; omega) (by rw [HL.out.ns]; omega) hW1 hH1 HA.out).mono ?_
            rintro e w3 ⟨rfl, pv3, sv3, bx, b, g, hd3, _, _, hf3, _, _, _, _, _⟩
            have HL3 : Hid (Lp w1 w3 d (np + 1) (A + T + 64 * H) pv3 sv3 (ps ++ [.pointer (some ⟨b, 0, none⟩)]) (ss ++ [.func (.func 12) #[] #[.pointer (some ⟨bx, 0, none⟩)]])) := ⟨hd3, by simp [HL.out.hnp], by simp [HL.out.ns], by omega, by omega, HL.out.fr.trans hf3 (fun k _ h => h.elim (fun h => by omega) (fun h => h.elim (fun h => (HL.out.doc.pg.lt k h).1) (fun h => (HL.out.doc.st.lt k h).1)))⟩
            rw [HL.out.hnp]
            clear hd3 hf3 e1 e2 c0 c1
            go_wp2_with fail
            refine (pages_any d d pv3 sv3 _ _ _ HL3.out.doc).mono ?_
            rintro e w4 ⟨rfl, rfl⟩
            rw [HL3.out.hnp]
            go_wp2_with fail
            go_roundw
            case rel => exact ⟨k + 1, (np + 1), (A + T + 64 * H), _, _, _, _, by omega, by omega, by omega, congrArg (Value.int .i64) (by omega), congrArg (Value.int .i64) (by omega), congrArg (Value.int .i64) (by omega), HL3.out⟩
            case measure => simp [intOf]; omega
      · have hs' : sizeOK x y = false := by simpa using hs
        clear hs
        go_wp2_with fail
        refine (zSize_any _ _ _ hx hy).mono ?_
        rintro e w2 ⟨rfl, rfl⟩
        rw [hs']
        go_wp2_with fail
        refine (newPage_area d x y _ hx hy hs').mono ?_
        rintro e w3 ⟨rfl, hf3⟩
        have HL3 : Hid (Lp w1 w3 d np A pv sv ps ss) := ⟨HL.out.doc.kept hf3 (fun h => h) (fun _ _ h => h) (fun _ _ h => h), HL.out.hnp, HL.out.ns, HL.out.le, by omega, HL.out.fr.trans hf3 (fun _ _ h => h.elim)⟩
        have hz : ¬ (1 ≤ x ∧ 1 ≤ y ∧ x * y ≤ 1048576) := of_decide_eq_false hs'
        clear hf3 e1 e2 c0 c1 hs'
        by_cases g1 : x < 1
        · clear hz
          go_wp2_with fail
          refine (pages_any d d pv sv ps ss _ HL3.out.doc).mono ?_
          rintro e w4 ⟨rfl, rfl⟩
          rw [HL3.out.hnp]
          go_wp2_with fail
          go_roundw
          case rel => exact ⟨k + 1, np, A, _, _, _, _, by omega, by omega, by omega, congrArg (Value.int .i64) (by omega), congrArg (Value.int .i64) (by omega), congrArg (Value.int .i64) (by omega), HL3.out⟩
          case measure => simp [intOf]; omega
        · by_cases g2 : y < 1
          · clear hz
            go_wp2_with fail
            refine (pages_any d d pv sv ps ss _ HL3.out.doc).mono ?_
            rintro e w4 ⟨rfl, rfl⟩
            rw [HL3.out.hnp]
            go_wp2_with fail
            go_roundw
            case rel => exact ⟨k + 1, np, A, _, _, _, _, by omega, by omega, by omega, congrArg (Value.int .i64) (by omega), congrArg (Value.int .i64) (by omega), congrArg (Value.int .i64) (by omega), HL3.out⟩
            case measure => simp [intOf]; omega
          · by_cases g3 : 1048576 < x
            · clear hz
              go_wp2_with fail
              refine (pages_any d d pv sv ps ss _ HL3.out.doc).mono ?_
              rintro e w4 ⟨rfl, rfl⟩
              rw [HL3.out.hnp]
              go_wp2_with fail
              go_roundw
              case rel => exact ⟨k + 1, np, A, _, _, _, _, by omega, by omega, by omega, congrArg (Value.int .i64) (by omega), congrArg (Value.int .i64) (by omega), congrArg (Value.int .i64) (by omega), HL3.out⟩
              case measure => simp [intOf]; omega
            · by_cases g4 : 1048576 < y
              · clear hz
                go_wp2_with fail
                refine (pages_any d d pv sv ps ss _ HL3.out.doc).mono ?_
                rintro e w4 ⟨rfl, rfl⟩
                rw [HL3.out.hnp]
                go_wp2_with fail
                go_roundw
                case rel => exact ⟨k + 1, np, A, _, _, _, _, by omega, by omega, by omega, congrArg (Value.int .i64) (by omega), congrArg (Value.int .i64) (by omega), congrArg (Value.int .i64) (by omega), HL3.out⟩
                case measure => simp [intOf]; omega
              · obtain ⟨T, HT⟩ : ∃ T, Hid (T = x * y) := ⟨_, rfl⟩
                have hT : x * y = T := HT.out.symm
                have hT1 : 1048576 < T := by rw [HT.out]; omega
                have hT2 : T ≤ 1099511627776 := by
                  rw [HT.out]
                  exact Int.le_trans (Int.mul_le_mul (show x ≤ 1048576 by omega) (show y ≤ 1048576 by omega) (by omega) (by omega)) (by decide)
                clear hz
                go_wp2_with fail
                refine (pages_any d d pv sv ps ss _ HL3.out.doc).mono ?_
                rintro e w4 ⟨rfl, rfl⟩
                rw [HL3.out.hnp]
                go_wp2_with fail
                go_roundw
                case rel => exact ⟨k + 1, np, A, _, _, _, _, by omega, by omega, by omega, congrArg (Value.int .i64) (by omega), congrArg (Value.int .i64) (by omega), congrArg (Value.int .i64) (by omega), HL3.out⟩
                case measure => simp [intOf]; omega
    · go_wp2_with fail
      all_goals
        refine (wakes_any _).mono ?_
        rintro e w9 ⟨rfl, hf9⟩
        have HF9 : Hid (Fr (fun _ => False) w w9) := (HF1.out.trans (HL.out.fr.trans hf9 (fun _ _ hh => hh.elim)) (fun i hi hh => by have := HDD.out; omega))
        clear hf9
        go_wp2_with fail
        go_ret
        exact ⟨rfl, HF9.out⟩
end Go.Proofs.Ytfdejhblmekmbaa
