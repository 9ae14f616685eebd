/- The document's own 'Order'. -/
import Derived.Test.YtodgdbbhllejkaaRo
namespace Go.Proofs.Ytodgdbbhllejkaa
open Go.RowKit

theorem seg_cells {w : World} {g n cap : Nat} {O : List Nat} (h : w.ownsRow 0 3 1 (.slice (some ⟨g, 0, none⟩) n cap) n (intCells O)) (s m : Nat) (hm : s + m ≤ n) : ∀ j u, (intCells ((O.drop s).take m))[j]? = some u → w.cell? ((⟨g, s, none⟩ : Addr).add j) = some u := fun j u hu => by
  have hl : O.length = n := by have := h.1; rw [length_intCells] at this; omega
  have hj : j < m := by
    rcases Nat.lt_or_ge j m with h2 | h2
    · exact h2
    · rw [List.getElem?_eq_none (by rw [length_intCells, List.length_take]; omega)] at hu; cases hu
  rw [addr_add, h.cellAt (s + j) (by omega), ← hu]
  unfold intCells
  rw [List.getElem?_map, List.getElem?_map, List.getElem?_take_of_lt hj, List.getElem?_drop]

set_option maxRecDepth 100000 in
set_option maxHeartbeats 8000000 in
theorem rorder_ok (ao : Option Addr) (n cap : Nat) (A : Nat → Bp) (w : World) (hB : BpsAt w ao n A) (hn : n ≤ 1048576) (hall : allB A n = true) :
    Calls Try.prog 20 #[.slice ao n cap] w fun e w' => ∃ v O, e = .returned (.tuple #[v, .int .i64 0]) ∧ w'.ownsRow 0 3 1 v n (intCells O) ∧ O.Perm (List.range n) ∧ O.Pairwise (fun i k => ltO A k i = false) ∧ Fr (fun _ => False) w w' := by
  obtain ⟨j0, hj0, hy0, hy1, hy2⟩ := info_parts Try.infoInt
  have hn0 := hB.len
  have HB : Hid (∀ w', Fr (fun _ => False) w w' → BpsAt w' ao n A) := fun w' f => hB.kept f
  have HC : Hid (∀ w', Fr (fun _ => False) w w' → ∀ j, j < n → Calls Try.prog 28 #[.agg #[.int .i64 (A j).x, .int .i64 (A j).y, (A j).v]] w' fun e w'' => e = .returned (.bool (okB (A j))) ∧ Fr (fun _ => False) w' w'') := fun w' f j hj => by
    have := (HB.out w' f).ok j hj
    exact may_any _ _ _ _ w' this.hx this.hy this.hv this.hlt
  have HCE : Hid (∀ w', Fr (fun _ => False) w w' → ∀ j, j < n → ∃ b off, ao = some ⟨b, off, none⟩ ∧ w'.cell? ⟨b, off + j * 3, none⟩ = some (.int .i64 (A j).x) ∧ w'.cell? ⟨b, off + j * 3 + 1, none⟩ = some (.int .i64 (A j).y) ∧ w'.cell? ⟨b, off + j * 3 + 2, none⟩ = some (A j).v) := fun w' f j hj => by
    obtain ⟨b, off, e, hc⟩ := (HB.out w' f).cells (by omega)
    exact ⟨b, off, e, hc j hj⟩
  have HSL : Hid (∀ j, j < n → ∃ av nv cv, (A j).v = .slice av nv cv) := fun j hj => by
    obtain ⟨av, cv, e, _⟩ := (hB.ok j hj).hv
    exact ⟨_, _, _, e⟩
  have HAL : Hid (allB A n = true) := hall
  clear hB hall
  go_enter Try.func20, Try.ntmps20
  go_wp2_with fail
  go_loopg [4] n (fun q k wr => ∃ (j : Nat), j + q = n ∧ k = .int .i64 (j : Int) ∧ Hid (∀ k, k < j → okB (A k) = true) ∧ Fr (fun _ => False) w wr)
  case atStart => exact ⟨0, by omega, rfl, fun _ h => absurd h (Nat.not_lt_zero _), Fr.refl _ _⟩
  case round =>
    obtain ⟨j, hjq, rfl, HNO, hfr⟩ := hrel
    have HFr : Hid (Fr (fun _ => False) w wr) := hfr
    clear hfr
    by_cases h1 : j < n
    · have d1 : decide (j < n) = true := decide_eq_true h1
      obtain ⟨b, off, rfl, k0, k1, k2⟩ := HCE.out wr HFr.out j h1
      obtain ⟨av, nv, cv, hv⟩ := HSL.out j h1
      have HCK := HC.out wr HFr.out j h1
      rw [hv] at HCK k2
      have HCK' : Hid _ := HCK
      have HOK : Hid (okB (A j) = true → ∀ k, k < j + 1 → okB (A k) = true) := fun hb k hk => by
        by_cases e : k = j
        · subst e; exact hb
        · exact HNO.out k (by omega)
      have HNA : Hid (okB (A j) = false → allB A n = false) := fun hf => decide_eq_false (fun h => by have := h j h1; rw [hf] at this; cases this)
      clear HCK hv
      generalize hx : (A j).x = x at *
      generalize hy : (A j).y = y at *
      clear hx hy
      cases hbb : okB (A j)
      · have := HNA.out hbb
        rw [HAL.out] at this
        cases this
      · rw [hbb] at HCK'
        have HOK' : Hid (∀ k, k < j + 1 → okB (A k) = true) := fun k hk => HOK.out hbb k hk
        clear hbb HOK HNA
        go_wp2_with fail
        refine Calls.mono HCK'.out ?_
        rintro e w4 ⟨rfl, hf4⟩
        have HF4 : Hid (Fr (fun _ => False) w w4) := HFr.out.trans hf4 (fun _ _ h => h)
        clear hf4
        go_wp2_with fail
        go_roundg (n - (j + 1))
        case measure => omega
        case rel => exact ⟨j + 1, by omega, by go_num, HOK'.out, HF4.out⟩
    · have d1 : decide (j < n) = false := decide_eq_false h1
      clear HNO HC
      go_wp2_with fail
      clear d1 h1
      have HFS : Hid (Fr (fun _ => False) w wr) := HFr.out
      clear HFr
      go_loopg [5, 6, 7, 8] n (fun q v ii _ _ wr => ∃ (i : Nat) (O : List Nat), i + q = n ∧ ii = .int .i64 (i : Int) ∧ wr.ownsRow w.heap.size 3 1 v i (intCells O) ∧ O.Perm (List.range i) ∧ O.Pairwise (fun a b => ltO A b a = false) ∧ Fr (fun _ => False) w wr)
      case atStart => exact ⟨0, [], by omega, rfl, World.ownsRow_nil _ _ _ _, List.Perm.refl _, List.Pairwise.nil, HFS.out⟩
      case round =>
        obtain ⟨i, O, hiq, rfl, hov, hp, hs, hfr⟩ := hrel
        have HO : Hid (wr.ownsRow w.heap.size 3 1 u5 i (intCells O)) := hov
        have HP : Hid (O.Perm (List.range i)) := hp
        have HSo : Hid (O.Pairwise (fun a b => ltO A b a = false)) := hs
        have HFr : Hid (Fr (fun _ => False) w wr) := hfr
        have HLO : Hid (O.length = i) := by show _ = _; rw [hp.length_eq, List.length_range]
        clear hov hp hs hfr HFS
        by_cases hin : i < n
        · have di : decide (i < n) = true := decide_eq_true hin
          obtain ⟨av, cv, hvv⟩ := own_slice HO.out
          subst hvv
          have hcv : i ≤ cv := by
            rcases HO.out.2 with ⟨e, h⟩ | ⟨g, c', cur, e, _, _, h, _⟩
            · simp only [Value.slice.injEq] at e; omega
            · simp only [Value.slice.injEq] at e; omega
          have HRK : Hid (∀ w', Fr (fun _ => False) wr w' → w'.ownsRow 0 3 1 (.slice av i cv) i (intCells O)) := fun w' f => ownsRow_base (row_kept HO.out f (fun _ _ h => h)) (fun _ _ => Nat.zero_le _)
          have HOC : Hid (∀ w', Fr (fun _ => False) wr w' → ∀ j, j < i → ∃ g, av = some ⟨g, 0, none⟩ ∧ w'.cell? ⟨g, j, none⟩ = some (.int .i64 ((O.getD j 0 : Nat) : Int))) := fun w' f j hj => by
            obtain ⟨g, c', e, _⟩ := row_form (HRK.out w' f) (by omega)
            cases e
            exact ⟨g, rfl, ((HRK.out w' f).cellAt j (by omega)).trans (intCells_get _ (by rw [HLO.out]; exact hj))⟩
          have HON : Hid (∀ j, j < i → O.getD j 0 < n) := fun j hj => by
            have : O.getD j 0 ∈ O := by rw [List.getD_eq_getElem?_getD, List.getElem?_eq_getElem (by rw [HLO.out]; exact hj)]; exact List.getElem_mem _
            have := List.mem_range.1 (HP.out.subset this)
            omega
          go_wp2_with fail
          go_loopg [7] i (fun q kk wq => ∃ (k : Nat), Hid (k = q) ∧ k ≤ i ∧ kk = .int .i64 (k : Int) ∧ Hid (∀ j, k ≤ j → j < i → lessB (A i) (A (O.getD j 0)) = true) ∧ Fr (fun _ => False) wr wq)
          case atStart => exact ⟨i, rfl, Nat.le_refl _, rfl, fun j h1 h2 => by omega, Fr.refl _ _⟩
          case round =>
            obtain ⟨k, HKQ, hki, rfl, HLS, hfq⟩ := hrel
            have HFq : Hid _ := hfq
            clear hfq
            by_cases hk0 : k = 0
            · have dk : decide ((0 : Int) < (k : Int)) = false := decide_eq_false (by omega)
              have dkn : decide (0 < k) = false := decide_eq_false (by omega)
              have dk' : ¬ (0 : Int) < (k : Int) := by omega
              have HLE : Hid (0 < k → lessB (A i) (A (O.getD (k - 1) 0)) = false) := fun h => by omega
              clear hk0
              go_upto_region 11 with (fail)
              go_quiet (fail)
              have HFz : Hid _ := HFq.out.drewN nq
              generalize wr.drewN nq = wz at *
              have HPP : Hid ((putAt O k i).Perm (List.range (i + 1)) ∧ (putAt O k i).Pairwise (fun a b => ltO A b a = false)) := ⟨putAt_perm HP.out, putAt_sorted HP.out HSo.out (by rw [HLO.out]; exact hki) (fun j h1 h2 => HLS.out j h1 (by rw [HLO.out] at h2; exact h2)) (fun h => HLE.out h)⟩
              have hform : (av = none ∧ i = 0 ∧ cv = 0) ∨ ∃ g, av = some ⟨g, 0, none⟩ := by
                rcases HO.out.2 with ⟨e, h⟩ | ⟨g, c', cur, e, _⟩
                · simp only [Value.slice.injEq] at e; exact Or.inl ⟨e.1, h, e.2.2⟩
                · simp only [Value.slice.injEq] at e; exact Or.inr ⟨g, e.1⟩
              rcases hform with ⟨ha, hi0, hc0⟩ | ⟨g, ha⟩
              · subst ha
                have hk00 : k = 0 := by omega
                subst hk00 hi0 hc0
                have HON0 : Hid (O = []) := List.eq_nil_of_length_eq_zero HLO.out
                have HPUT : Hid (∀ (w3 : World) (v3 : Value), w3.ownsRow w.heap.size 3 1 v3 (0 + 1 + 0) (([] : List Value) ++ [.int .i64 (0 : Int)] ++ ([] : List Value)) → w3.ownsRow w.heap.size 3 1 v3 (0 + 1) (intCells (putAt O 0 0))) := fun w3 v3 h => by
                  rw [HON0.out]
                  exact h
                have HBZ : Hid (w.heap.size ≤ wz.heap.size) := (HFr.out.trans HFz.out (fun _ _ h => h)).size
                go_wp2_with (first | (at_builtin; refine wpList_append_any _ rfl _ _ 31 rfl wz.heap.size 3 j0 (.int .i64 0) 1 8 Try.underlying31 hj0 hy0 hy1 hy2 rfl (by decide) (.slice none 0 0) 0 [] rfl (World.ownsRow_nil _ _ _ _) none 0 0 ([] : List Value) rfl rfl (fun h => absurd h (Nat.lt_irrefl _)) (by intro u hu; cases hu) (by unfold maxLen; omega) (by omega) (Nat.le_refl _) ?_))
                intro v1 w1 ho1 hg1
                have HO1 : Hid (w1.ownsRow wz.heap.size 3 1 v1 0 ([] : List Value)) := by first | exact ho1 | (have := ho1; simp only [Nat.zero_add, List.nil_append] at this; exact this)
                have HB1 : Hid (Fr (fun _ => False) wz w1) := (Fr.refl (fun _ => False) wz).grown hg1 (fun k hk _ => by cases hk)
                have hw1 : wz.heap.size ≤ w1.heap.size := HB1.out.size
                clear ho1 hg1
                go_wp2_with (first | (at_builtin; refine wpList_append_any _ rfl _ _ 31 rfl wz.heap.size 3 j0 (.int .i64 0) 1 8 Try.underlying31 hj0 hy0 hy1 hy2 rfl (by decide) v1 0 ([] : List Value) rfl (HO1.out.alloc _) (some ⟨w1.heap.size, 0, none⟩) 1 1 [.int .i64 (0 : Int)] rfl rfl (fun _ => ⟨_, rfl, one_later (Fr.refl (fun _ => False) _)⟩) (by intro u hu; simp at hu; subst hu; rfl) (by unfold maxLen; omega) (by omega) (by rw [World.size_alloc]; omega) ?_))
                intro v2 w2 ho2 hg2
                have HO2 : Hid (w2.ownsRow wz.heap.size 3 1 v2 (0 + 1) (([] : List Value) ++ [.int .i64 (0 : Int)])) := ho2
                have HB2 : Hid (Fr (fun _ => False) wz w2) := (HB1.out.alloc _).grown hg2 (fun k hk hlt => by have := (HO1.out.lt k hk).1; omega)
                have hw2 : wz.heap.size ≤ w2.heap.size := HB2.out.size
                clear ho2 hg2
                go_wp2_with (first | (at_builtin; refine wpList_append_any _ rfl _ _ 31 rfl wz.heap.size 3 j0 (.int .i64 0) 1 8 Try.underlying31 hj0 hy0 hy1 hy2 rfl (by decide) v2 (0 + 1) (([] : List Value) ++ [.int .i64 (0 : Int)]) rfl HO2.out none 0 0 ([] : List Value) rfl rfl (fun h => absurd h (Nat.lt_irrefl _)) (by intro u hu; cases hu) (by unfold maxLen; omega) (by omega) hw2 ?_))
                intro v3 w3 ho3 hg3
                have HB3 : Hid (Fr (fun _ => False) w w3) := (HFr.out.trans HFz.out (fun _ _ h => h)).trans (HB2.out.grown hg3 (fun k hk hlt => by have := (HO2.out.lt k hk).1; omega)) (fun _ _ h => h)
                have ho4 : w3.ownsRow wz.heap.size 3 1 v3 (0 + 1 + 0) (([] : List Value) ++ [.int .i64 (0 : Int)] ++ ([] : List Value)) := by first | exact ho3 | (rw [List.append_assoc]; exact ho3) | (rw [List.append_nil]; exact ho3)
                have HO3 : Hid (w3.ownsRow w.heap.size 3 1 v3 (0 + 1) (intCells (putAt O 0 0))) := HPUT.out w3 v3 (ownsRow_base ho4 (fun b hb => Nat.le_trans HBZ.out (ho4.lt b hb).1))
                clear ho3 hg3 ho4
                go_wp2_with fail
                go_roundg (n - (0 + 1))
                case measure => omega
                case rel => exact ⟨0 + 1, putAt O 0 0, by omega, by first | go_num | exact congrArg (Value.int .i64) (by omega), HO3.out, HPP.out.1, HPP.out.2, HB3.out⟩
              · cases ha
                have hk1 : (k : Int) ≤ (cv : Int) := by omega
                have hk2 : (k : Int) ≤ (i : Int) := by omega
                have hk3 : (0 : Int) ≤ (k : Int) := by omega
                by_cases hck : cv = k
                · have hik : i = k := by omega
                  have hck' := hck.symm
                  subst hck'
                  have HPUT : Hid (∀ (w3 : World) (v3 : Value), w3.ownsRow w.heap.size 3 1 v3 (k + 1 + 0) (intCells (O.take k) ++ [.int .i64 (i : Int)] ++ []) → w3.ownsRow w.heap.size 3 1 v3 (i + 1) (intCells (putAt O k i))) := fun w3 v3 h => by
                    have e : intCells (putAt O k i) = intCells (O.take k) ++ [.int .i64 (i : Int)] ++ [] := by
                      unfold putAt
                      rw [intCells_append, intCells_append, show O.drop k = [] from List.drop_of_length_le (by rw [HLO.out]; omega)]
                      simp [intCells]
                    rw [e, show i + 1 = k + 1 + 0 by omega]
                    exact h
                  clear hik
                  have HBZ : Hid (w.heap.size ≤ wz.heap.size) := (HFr.out.trans HFz.out (fun _ _ h => h)).size
                  go_wp2_with (first | (at_builtin; refine wpList_append_any _ rfl _ _ 31 rfl wz.heap.size 3 j0 (.int .i64 0) 1 8 Try.underlying31 hj0 hy0 hy1 hy2 rfl (by decide) (.slice none 0 0) 0 [] rfl (World.ownsRow_nil _ _ _ _) (some ⟨g, 0, none⟩) k k (intCells (O.take k)) rfl (by rw [length_intCells, List.length_take, HLO.out]; omega) (fun _ => ⟨_, rfl, by have := seg_cells (HRK.out _ HFz.out) 0 k (by omega); rwa [List.drop_zero] at this⟩) (intCells_one _) (by unfold maxLen; omega) (by omega) (Nat.le_refl _) ?_))
                  intro v1 w1 ho1 hg1
                  have HO1 : Hid (w1.ownsRow wz.heap.size 3 1 v1 k (intCells (O.take k))) := by first | exact ho1 | (have := ho1; simp only [Nat.zero_add, List.nil_append] at this; exact this)
                  have HB1 : Hid (Fr (fun _ => False) wz w1) := (Fr.refl (fun _ => False) wz).grown hg1 (fun k hk _ => by cases hk)
                  have hw1 : wz.heap.size ≤ w1.heap.size := HB1.out.size
                  clear ho1 hg1
                  go_wp2_with (first | (at_builtin; refine wpList_append_any _ rfl _ _ 31 rfl wz.heap.size 3 j0 (.int .i64 0) 1 8 Try.underlying31 hj0 hy0 hy1 hy2 rfl (by decide) v1 k (intCells (O.take k)) rfl (HO1.out.alloc _) (some ⟨w1.heap.size, 0, none⟩) 1 1 [.int .i64 (i : Int)] rfl rfl (fun _ => ⟨_, rfl, one_later (Fr.refl (fun _ => False) _)⟩) (by intro u hu; simp at hu; subst hu; rfl) (by unfold maxLen; omega) (by omega) (by rw [World.size_alloc]; omega) ?_))
                  intro v2 w2 ho2 hg2
                  have HO2 : Hid (w2.ownsRow wz.heap.size 3 1 v2 (k + 1) ((intCells (O.take k)) ++ [.int .i64 (i : Int)])) := ho2
                  have HB2 : Hid (Fr (fun _ => False) wz w2) := (HB1.out.alloc _).grown hg2 (fun k hk hlt => by have := (HO1.out.lt k hk).1; omega)
                  have hw2 : wz.heap.size ≤ w2.heap.size := HB2.out.size
                  clear ho2 hg2
                  go_wp2_with (first | (at_builtin; refine wpList_append_any _ rfl _ _ 31 rfl wz.heap.size 3 j0 (.int .i64 0) 1 8 Try.underlying31 hj0 hy0 hy1 hy2 rfl (by decide) v2 (k + 1) ((intCells (O.take k)) ++ [.int .i64 (i : Int)]) rfl HO2.out (some ⟨g, 0, none⟩) 0 0 ([] : List Value) rfl rfl (fun h => absurd h (Nat.lt_irrefl _)) (by intro u hu; cases hu) (by unfold maxLen; omega) (by omega) hw2 ?_))
                  intro v3 w3 ho3 hg3
                  have HB3 : Hid (Fr (fun _ => False) w w3) := (HFr.out.trans HFz.out (fun _ _ h => h)).trans (HB2.out.grown hg3 (fun k hk hlt => by have := (HO2.out.lt k hk).1; omega)) (fun _ _ h => h)
                  have ho4 : w3.ownsRow wz.heap.size 3 1 v3 (k + 1 + 0) ((intCells (O.take k)) ++ [.int .i64 (i : Int)] ++ ([] : List Value)) := by first | exact ho3 | (rw [List.append_assoc]; exact ho3) | (rw [List.append_nil]; exact ho3)
                  have HO3 : Hid (w3.ownsRow w.heap.size 3 1 v3 (i + 1) (intCells (putAt O k i))) := HPUT.out w3 v3 (ownsRow_base ho4 (fun b hb => Nat.le_trans HBZ.out (ho4.lt b hb).1))
                  clear ho3 hg3 ho4
                  go_wp2_with fail
                  go_roundg (n - (i + 1))
                  case measure => omega
                  case rel => exact ⟨i + 1, putAt O k i, by omega, by first | go_num | exact congrArg (Value.int .i64) (by omega), HO3.out, HPP.out.1, HPP.out.2, HB3.out⟩
                · have hik : k + (i - k) = i := by omega
                  have hsub : ((i : Int) - (k : Int)) = ((i - k : Nat) : Int) := by omega
                  have hsub2 : ((cv : Int) - (k : Int)) = ((cv - k : Nat) : Int) := by omega
                  have hck2 : ¬ ((cv : Int) = (k : Int)) := by omega
                  have HPUT : Hid (∀ (w3 : World) (v3 : Value), w3.ownsRow w.heap.size 3 1 v3 (k + 1 + (i - k)) (intCells (O.take k) ++ [.int .i64 (i : Int)] ++ intCells ((O.drop k).take (i - k))) → w3.ownsRow w.heap.size 3 1 v3 (i + 1) (intCells (putAt O k i))) := fun w3 v3 h => by
                    have e : intCells (putAt O k i) = intCells (O.take k) ++ [.int .i64 (i : Int)] ++ intCells ((O.drop k).take (i - k)) := by
                      unfold putAt
                      rw [intCells_append, intCells_append, List.take_of_length_le (l := O.drop k) (by rw [List.length_drop, HLO.out]; omega)]
                      simp [intCells]
                    rw [e, show i + 1 = k + 1 + (i - k) by omega]
                    exact h
                  clear hik
                  have HBZ : Hid (w.heap.size ≤ wz.heap.size) := (HFr.out.trans HFz.out (fun _ _ h => h)).size
                  go_wp2_with (first | (at_builtin; refine wpList_append_any _ rfl _ _ 31 rfl wz.heap.size 3 j0 (.int .i64 0) 1 8 Try.underlying31 hj0 hy0 hy1 hy2 rfl (by decide) (.slice none 0 0) 0 [] rfl (World.ownsRow_nil _ _ _ _) (some ⟨g, 0, none⟩) k cv (intCells (O.take k)) rfl (by rw [length_intCells, List.length_take, HLO.out]; omega) (fun _ => ⟨_, rfl, by have := seg_cells (HRK.out _ HFz.out) 0 k (by omega); rwa [List.drop_zero] at this⟩) (intCells_one _) (by unfold maxLen; omega) (by omega) (Nat.le_refl _) ?_))
                  intro v1 w1 ho1 hg1
                  have HO1 : Hid (w1.ownsRow wz.heap.size 3 1 v1 k (intCells (O.take k))) := by first | exact ho1 | (have := ho1; simp only [Nat.zero_add, List.nil_append] at this; exact this)
                  have HB1 : Hid (Fr (fun _ => False) wz w1) := (Fr.refl (fun _ => False) wz).grown hg1 (fun k hk _ => by cases hk)
                  have hw1 : wz.heap.size ≤ w1.heap.size := HB1.out.size
                  clear ho1 hg1
                  go_wp2_with (first | (at_builtin; refine wpList_append_any _ rfl _ _ 31 rfl wz.heap.size 3 j0 (.int .i64 0) 1 8 Try.underlying31 hj0 hy0 hy1 hy2 rfl (by decide) v1 k (intCells (O.take k)) rfl (HO1.out.alloc _) (some ⟨w1.heap.size, 0, none⟩) 1 1 [.int .i64 (i : Int)] rfl rfl (fun _ => ⟨_, rfl, one_later (Fr.refl (fun _ => False) _)⟩) (by intro u hu; simp at hu; subst hu; rfl) (by unfold maxLen; omega) (by omega) (by rw [World.size_alloc]; omega) ?_))
                  intro v2 w2 ho2 hg2
                  have HO2 : Hid (w2.ownsRow wz.heap.size 3 1 v2 (k + 1) ((intCells (O.take k)) ++ [.int .i64 (i : Int)])) := ho2
                  have HB2 : Hid (Fr (fun _ => False) wz w2) := (HB1.out.alloc _).grown hg2 (fun k hk hlt => by have := (HO1.out.lt k hk).1; omega)
                  have hw2 : wz.heap.size ≤ w2.heap.size := HB2.out.size
                  clear ho2 hg2
                  go_wp2_with (first | (at_builtin; refine wpList_append_any _ rfl _ _ 31 rfl wz.heap.size 3 j0 (.int .i64 0) 1 8 Try.underlying31 hj0 hy0 hy1 hy2 rfl (by decide) v2 (k + 1) ((intCells (O.take k)) ++ [.int .i64 (i : Int)]) rfl HO2.out (some ⟨g, k, none⟩) (i - k) (cv - k) (intCells ((O.drop k).take (i - k))) rfl (by rw [length_intCells, List.length_take, List.length_drop, HLO.out]; omega) (fun _ => ⟨_, rfl, seg_cells (HRK.out _ (HFz.out.trans HB2.out (fun _ _ h => h))) k (i - k) (by omega)⟩) (intCells_one _) (by unfold maxLen; omega) (by omega) hw2 ?_))
                  intro v3 w3 ho3 hg3
                  have HB3 : Hid (Fr (fun _ => False) w w3) := (HFr.out.trans HFz.out (fun _ _ h => h)).trans (HB2.out.grown hg3 (fun k hk hlt => by have := (HO2.out.lt k hk).1; omega)) (fun _ _ h => h)
                  have ho4 : w3.ownsRow wz.heap.size 3 1 v3 (k + 1 + (i - k)) ((intCells (O.take k)) ++ [.int .i64 (i : Int)] ++ (intCells ((O.drop k).take (i - k)))) := by first | exact ho3 | (rw [List.append_assoc]; exact ho3) | (rw [List.append_nil]; exact ho3)
                  have HO3 : Hid (w3.ownsRow w.heap.size 3 1 v3 (i + 1) (intCells (putAt O k i))) := HPUT.out w3 v3 (ownsRow_base ho4 (fun b hb => Nat.le_trans HBZ.out (ho4.lt b hb).1))
                  clear ho3 hg3 ho4
                  go_wp2_with fail
                  go_roundg (n - (i + 1))
                  case measure => omega
                  case rel => exact ⟨i + 1, putAt O k i, by omega, by first | go_num | exact congrArg (Value.int .i64) (by omega), HO3.out, HPP.out.1, HPP.out.2, HB3.out⟩
            · obtain ⟨k', hk'⟩ : ∃ k', k = k' + 1 := ⟨k - 1, by omega⟩
              have dk : decide ((0 : Int) < (k : Int)) = true := decide_eq_true (by omega)
              have dkn : decide (0 < k) = true := decide_eq_true (by omega)
              have dk' : (0 : Int) < (k : Int) := by omega
              have hk1' : (k : Int) - 1 = (k' : Int) := by omega
              have hw1' : IntKind.i64.wrap (k' : Int) = (k' : Int) := by rw [IntKind.wrap_i64]; omega
              have hw2' : wrap64 ((k : Int) - 1) = (k' : Int) := by unfold wrap64; omega
              have hki' : k' < i := by omega
              have dk2 : decide (k' < i) = true := decide_eq_true hki'
              have hqn := HON.out k' hki'
              have dq : decide (O.getD k' 0 < n) = true := decide_eq_true hqn
              obtain ⟨g, hag, kg⟩ := HOC.out wr HFq.out k' hki'
              obtain ⟨b, off, hao, ki0, ki1, ki2⟩ := HCE.out wr (HFr.out.trans HFq.out (fun _ _ h => h)) i hin
              obtain ⟨b', off', hao', kj0, kj1, kj2⟩ := HCE.out wr (HFr.out.trans HFq.out (fun _ _ h => h)) (O.getD k' 0) hqn
              rw [hao] at hao'
              simp only [Option.some.injEq, Addr.mk.injEq] at hao'
              obtain ⟨rfl, rfl, -⟩ := hao'
              obtain ⟨av1, nv1, cv1, hv1⟩ := HSL.out i hin
              obtain ⟨av2, nv2, cv2, hv2⟩ := HSL.out (O.getD k' 0) hqn
              subst hao hag
              have HS : Hid (∀ w', Fr (fun _ => False) wr w' → w'.cell? ⟨g, k', none⟩ = some (.int .i64 ((O.getD k' 0 : Nat) : Int)) ∧ (w'.cell? ⟨b, off + i * 3, none⟩ = some (.int .i64 (A i).x) ∧ w'.cell? ⟨b, off + i * 3 + 1, none⟩ = some (.int .i64 (A i).y) ∧ w'.cell? ⟨b, off + i * 3 + 2, none⟩ = some (.slice av1 nv1 cv1)) ∧ (w'.cell? ⟨b, off + O.getD k' 0 * 3, none⟩ = some (.int .i64 (A (O.getD k' 0)).x) ∧ w'.cell? ⟨b, off + O.getD k' 0 * 3 + 1, none⟩ = some (.int .i64 (A (O.getD k' 0)).y) ∧ w'.cell? ⟨b, off + O.getD k' 0 * 3 + 2, none⟩ = some (.slice av2 nv2 cv2))) := fun w' f => by
                have l1 := seen_lt ki0
                rw [hv1] at ki2
                rw [hv2] at kj2
                refine ⟨by rw [f.cellEq (seen_lt kg) (fun h => h)]; exact kg, ⟨?_, ?_, ?_⟩, ?_, ?_, ?_⟩ <;> rw [f.cellEq l1 (fun h => h)] <;> assumption
              have HLS2 : Hid (∀ w', Calls Try.prog 37 #[.agg #[.int .i64 (A i).x, .int .i64 (A i).y, .slice av1 nv1 cv1], .agg #[.int .i64 (A (O.getD k' 0)).x, .int .i64 (A (O.getD k' 0)).y, .slice av2 nv2 cv2]] w' fun e w'' => e = .returned (.bool (lessB (A i) (A (O.getD k' 0)))) ∧ Fr (fun _ => False) w' w'') := fun w' => by
                have := less_any (A i) (A (O.getD k' 0)) w'
                rw [hv1, hv2] at this
                exact this
              have HLT2 : Hid (lessB (A i) (A (O.getD k' 0)) = true → ∀ j, k' ≤ j → j < i → lessB (A i) (A (O.getD j 0)) = true) := fun h j h1 h2 => by
                by_cases e : j = k'
                · subst e; exact h
                · exact HLS.out j (by omega) h2
              have HLE2 : Hid (lessB (A i) (A (O.getD k' 0)) = false → 0 < k → lessB (A i) (A (O.getD (k - 1) 0)) = false) := fun h _ => by
                rw [show k - 1 = k' by omega]; exact h
              have HKK : Hid (k = k' + 1) := hk'
              clear hk' hk0 ki0 ki1 ki2 kj0 kj1 kj2 kg hv1 hv2
              generalize (A i).x = xi at *
              generalize (A i).y = yi at *
              generalize (A (O.getD k' 0)).x = xq at *
              generalize (A (O.getD k' 0)).y = yq at *
              generalize lessB (A i) (A (O.getD k' 0)) = lb at *
              generalize hqq : O.getD k' 0 = q at *
              clear hqq
              go_upto_region 11 with (fail)
              go_region_held3 (fun w' => w'.cell? ⟨g, k', none⟩ = some (.int .i64 (q : Int)) ∧ (w'.cell? ⟨b, off + i * 3, none⟩ = some (.int .i64 xi) ∧ w'.cell? ⟨b, off + i * 3 + 1, none⟩ = some (.int .i64 yi) ∧ w'.cell? ⟨b, off + i * 3 + 2, none⟩ = some (.slice av1 nv1 cv1)) ∧ (w'.cell? ⟨b, off + q * 3, none⟩ = some (.int .i64 xq) ∧ w'.cell? ⟨b, off + q * 3 + 1, none⟩ = some (.int .i64 yq) ∧ w'.cell? ⟨b, off + q * 3 + 2, none⟩ = some (.slice av2 nv2 cv2))) (first | exact HS.out _ (Fr.refl _ _).drew | exact HS.out _ hf5'.out) (first | (go_at_call 37; refine (HLS2.out _).mono ?_; rintro e w5 ⟨rfl, hf5⟩; (have hf5' : Hid (Fr (fun _ => False) wr w5) := (Fr.refl (fun _ => False) wr).drew.trans hf5 (fun _ _ h => h)); clear hf5))
              have HFz : Hid _ := HFq.out.trans hf5'.out (fun _ _ h => h)
              cases lb
              · have HLE : Hid (0 < k → lessB (A i) (A (O.getD (k - 1) 0)) = false) := HLE2.out rfl
                have HPP : Hid ((putAt O k i).Perm (List.range (i + 1)) ∧ (putAt O k i).Pairwise (fun a b => ltO A b a = false)) := ⟨putAt_perm HP.out, putAt_sorted HP.out HSo.out (by rw [HLO.out]; exact hki) (fun j h1 h2 => HLS.out j h1 (by rw [HLO.out] at h2; exact h2)) (fun h => HLE.out h)⟩
                have hfine : True := trivial
                · clear hfine
                  have hk1 : (k : Int) ≤ (cv : Int) := by omega
                  have hk2 : (k : Int) ≤ (i : Int) := by omega
                  have hk3 : (0 : Int) ≤ (k : Int) := by omega
                  by_cases hck : cv = k
                  · have hik : i = k := by omega
                    have hck' := hck.symm
                    subst hck'
                    have HPUT : Hid (∀ (w3 : World) (v3 : Value), w3.ownsRow w.heap.size 3 1 v3 (k + 1 + 0) (intCells (O.take k) ++ [.int .i64 (i : Int)] ++ []) → w3.ownsRow w.heap.size 3 1 v3 (i + 1) (intCells (putAt O k i))) := fun w3 v3 h => by
                      have e : intCells (putAt O k i) = intCells (O.take k) ++ [.int .i64 (i : Int)] ++ [] := by
                        unfold putAt
                        rw [intCells_append, intCells_append, show O.drop k = [] from List.drop_of_length_le (by rw [HLO.out]; omega)]
                        simp [intCells]
                      rw [e, show i + 1 = k + 1 + 0 by omega]
                      exact h
                    clear hik
                    have HBZ : Hid (w.heap.size ≤ w5.heap.size) := (HFr.out.trans HFz.out (fun _ _ h => h)).size
                    go_wp2_with (first | (at_builtin; refine wpList_append_any _ rfl _ _ 31 rfl w5.heap.size 3 j0 (.int .i64 0) 1 8 Try.underlying31 hj0 hy0 hy1 hy2 rfl (by decide) (.slice none 0 0) 0 [] rfl (World.ownsRow_nil _ _ _ _) (some ⟨g, 0, none⟩) k k (intCells (O.take k)) rfl (by rw [length_intCells, List.length_take, HLO.out]; omega) (fun _ => ⟨_, rfl, by have := seg_cells (HRK.out _ HFz.out) 0 k (by omega); rwa [List.drop_zero] at this⟩) (intCells_one _) (by unfold maxLen; omega) (by omega) (Nat.le_refl _) ?_))
                    intro v1 w1 ho1 hg1
                    have HO1 : Hid (w1.ownsRow w5.heap.size 3 1 v1 k (intCells (O.take k))) := by first | exact ho1 | (have := ho1; simp only [Nat.zero_add, List.nil_append] at this; exact this)
                    have HB1 : Hid (Fr (fun _ => False) w5 w1) := (Fr.refl (fun _ => False) w5).grown hg1 (fun k hk _ => by cases hk)
                    have hw1 : w5.heap.size ≤ w1.heap.size := HB1.out.size
                    clear ho1 hg1
                    go_wp2_with (first | (at_builtin; refine wpList_append_any _ rfl _ _ 31 rfl w5.heap.size 3 j0 (.int .i64 0) 1 8 Try.underlying31 hj0 hy0 hy1 hy2 rfl (by decide) v1 k (intCells (O.take k)) rfl (HO1.out.alloc _) (some ⟨w1.heap.size, 0, none⟩) 1 1 [.int .i64 (i : Int)] rfl rfl (fun _ => ⟨_, rfl, one_later (Fr.refl (fun _ => False) _)⟩) (by intro u hu; simp at hu; subst hu; rfl) (by unfold maxLen; omega) (by omega) (by rw [World.size_alloc]; omega) ?_))
                    intro v2 w2 ho2 hg2
                    have HO2 : Hid (w2.ownsRow w5.heap.size 3 1 v2 (k + 1) ((intCells (O.take k)) ++ [.int .i64 (i : Int)])) := ho2
                    have HB2 : Hid (Fr (fun _ => False) w5 w2) := (HB1.out.alloc _).grown hg2 (fun k hk hlt => by have := (HO1.out.lt k hk).1; omega)
                    have hw2 : w5.heap.size ≤ w2.heap.size := HB2.out.size
                    clear ho2 hg2
                    go_wp2_with (first | (at_builtin; refine wpList_append_any _ rfl _ _ 31 rfl w5.heap.size 3 j0 (.int .i64 0) 1 8 Try.underlying31 hj0 hy0 hy1 hy2 rfl (by decide) v2 (k + 1) ((intCells (O.take k)) ++ [.int .i64 (i : Int)]) rfl HO2.out (some ⟨g, 0, none⟩) 0 0 ([] : List Value) rfl rfl (fun h => absurd h (Nat.lt_irrefl _)) (by intro u hu; cases hu) (by unfold maxLen; omega) (by omega) hw2 ?_))
                    intro v3 w3 ho3 hg3
                    have HB3 : Hid (Fr (fun _ => False) w w3) := (HFr.out.trans HFz.out (fun _ _ h => h)).trans (HB2.out.grown hg3 (fun k hk hlt => by have := (HO2.out.lt k hk).1; omega)) (fun _ _ h => h)
                    have ho4 : w3.ownsRow w5.heap.size 3 1 v3 (k + 1 + 0) ((intCells (O.take k)) ++ [.int .i64 (i : Int)] ++ ([] : List Value)) := by first | exact ho3 | (rw [List.append_assoc]; exact ho3) | (rw [List.append_nil]; exact ho3)
                    have HO3 : Hid (w3.ownsRow w.heap.size 3 1 v3 (i + 1) (intCells (putAt O k i))) := HPUT.out w3 v3 (ownsRow_base ho4 (fun b hb => Nat.le_trans HBZ.out (ho4.lt b hb).1))
                    clear ho3 hg3 ho4
                    go_wp2_with fail
                    go_roundg (n - (i + 1))
                    case measure => omega
                    case rel => exact ⟨i + 1, putAt O k i, by omega, by first | go_num | exact congrArg (Value.int .i64) (by omega), HO3.out, HPP.out.1, HPP.out.2, HB3.out⟩
                  · have hik : k + (i - k) = i := by omega
                    have hsub : ((i : Int) - (k : Int)) = ((i - k : Nat) : Int) := by omega
                    have hsub2 : ((cv : Int) - (k : Int)) = ((cv - k : Nat) : Int) := by omega
                    have hck2 : ¬ ((cv : Int) = (k : Int)) := by omega
                    have HPUT : Hid (∀ (w3 : World) (v3 : Value), w3.ownsRow w.heap.size 3 1 v3 (k + 1 + (i - k)) (intCells (O.take k) ++ [.int .i64 (i : Int)] ++ intCells ((O.drop k).take (i - k))) → w3.ownsRow w.heap.size 3 1 v3 (i + 1) (intCells (putAt O k i))) := fun w3 v3 h => by
                      have e : intCells (putAt O k i) = intCells (O.take k) ++ [.int .i64 (i : Int)] ++ intCells ((O.drop k).take (i - k)) := by
                        unfold putAt
                        rw [intCells_append, intCells_append, List.take_of_length_le (l := O.drop k) (by rw [List.length_drop, HLO.out]; omega)]
                        simp [intCells]
                      rw [e, show i + 1 = k + 1 + (i - k) by omega]
                      exact h
                    clear hik
                    have HBZ : Hid (w.heap.size ≤ w5.heap.size) := (HFr.out.trans HFz.out (fun _ _ h => h)).size
                    go_wp2_with (first | (at_builtin; refine wpList_append_any _ rfl _ _ 31 rfl w5.heap.size 3 j0 (.int .i64 0) 1 8 Try.underlying31 hj0 hy0 hy1 hy2 rfl (by decide) (.slice none 0 0) 0 [] rfl (World.ownsRow_nil _ _ _ _) (some ⟨g, 0, none⟩) k cv (intCells (O.take k)) rfl (by rw [length_intCells, List.length_take, HLO.out]; omega) (fun _ => ⟨_, rfl, by have := seg_cells (HRK.out _ HFz.out) 0 k (by omega); rwa [List.drop_zero] at this⟩) (intCells_one _) (by unfold maxLen; omega) (by omega) (Nat.le_refl _) ?_))
                    intro v1 w1 ho1 hg1
                    have HO1 : Hid (w1.ownsRow w5.heap.size 3 1 v1 k (intCells (O.take k))) := by first | exact ho1 | (have := ho1; simp only [Nat.zero_add, List.nil_append] at this; exact this)
                    have HB1 : Hid (Fr (fun _ => False) w5 w1) := (Fr.refl (fun _ => False) w5).grown hg1 (fun k hk _ => by cases hk)
                    have hw1 : w5.heap.size ≤ w1.heap.size := HB1.out.size
                    clear ho1 hg1
                    go_wp2_with (first | (at_builtin; refine wpList_append_any _ rfl _ _ 31 rfl w5.heap.size 3 j0 (.int .i64 0) 1 8 Try.underlying31 hj0 hy0 hy1 hy2 rfl (by decide) v1 k (intCells (O.take k)) rfl (HO1.out.alloc _) (some ⟨w1.heap.size, 0, none⟩) 1 1 [.int .i64 (i : Int)] rfl rfl (fun _ => ⟨_, rfl, one_later (Fr.refl (fun _ => False) _)⟩) (by intro u hu; simp at hu; subst hu; rfl) (by unfold maxLen; omega) (by omega) (by rw [World.size_alloc]; omega) ?_))
                    intro v2 w2 ho2 hg2
                    have HO2 : Hid (w2.ownsRow w5.heap.size 3 1 v2 (k + 1) ((intCells (O.take k)) ++ [.int .i64 (i : Int)])) := ho2
                    have HB2 : Hid (Fr (fun _ => False) w5 w2) := (HB1.out.alloc _).grown hg2 (fun k hk hlt => by have := (HO1.out.lt k hk).1; omega)
                    have hw2 : w5.heap.size ≤ w2.heap.size := HB2.out.size
                    clear ho2 hg2
                    go_wp2_with (first | (at_builtin; refine wpList_append_any _ rfl _ _ 31 rfl w5.heap.size 3 j0 (.int .i64 0) 1 8 Try.underlying31 hj0 hy0 hy1 hy2 rfl (by decide) v2 (k + 1) ((intCells (O.take k)) ++ [.int .i64 (i : Int)]) rfl HO2.out (some ⟨g, k, none⟩) (i - k) (cv - k) (intCells ((O.drop k).take (i - k))) rfl (by rw [length_intCells, List.length_take, List.length_drop, HLO.out]; omega) (fun _ => ⟨_, rfl, seg_cells (HRK.out _ (HFz.out.trans HB2.out (fun _ _ h => h))) k (i - k) (by omega)⟩) (intCells_one _) (by unfold maxLen; omega) (by omega) hw2 ?_))
                    intro v3 w3 ho3 hg3
                    have HB3 : Hid (Fr (fun _ => False) w w3) := (HFr.out.trans HFz.out (fun _ _ h => h)).trans (HB2.out.grown hg3 (fun k hk hlt => by have := (HO2.out.lt k hk).1; omega)) (fun _ _ h => h)
                    have ho4 : w3.ownsRow w5.heap.size 3 1 v3 (k + 1 + (i - k)) ((intCells (O.take k)) ++ [.int .i64 (i : Int)] ++ (intCells ((O.drop k).take (i - k)))) := by first | exact ho3 | (rw [List.append_assoc]; exact ho3) | (rw [List.append_nil]; exact ho3)
                    have HO3 : Hid (w3.ownsRow w.heap.size 3 1 v3 (i + 1) (intCells (putAt O k i))) := HPUT.out w3 v3 (ownsRow_base ho4 (fun b hb => Nat.le_trans HBZ.out (ho4.lt b hb).1))
                    clear ho3 hg3 ho4
                    go_wp2_with fail
                    go_roundg (n - (i + 1))
                    case measure => omega
                    case rel => exact ⟨i + 1, putAt O k i, by omega, by first | go_num | exact congrArg (Value.int .i64) (by omega), HO3.out, HPP.out.1, HPP.out.2, HB3.out⟩
              · have HLS3 : Hid (∀ j, k' ≤ j → j < i → lessB (A i) (A (O.getD j 0)) = true) := HLT2.out rfl
                go_wp2_with fail
                go_roundg k'
                case measure => have h1 := HKK.out; have h2 := HKQ.out; omega
                case rel => exact ⟨k', rfl, by omega, by first | go_num | exact congrArg (Value.int .i64) (by omega), HLS3.out, HFz.out⟩
        · have di : decide (i < n) = false := decide_eq_false hin
          obtain ⟨av, cv, hvv⟩ := own_slice HO.out
          subst hvv
          have hi : i = n := by omega
          have HFI : Hid (wr.ownsRow 0 3 1 (.slice av i cv) n (intCells O) ∧ O.Perm (List.range n) ∧ O.Pairwise (fun i k => ltO A k i = false) ∧ Fr (fun _ => False) w wr) := by
            have h1 := HO.out
            have h2 := HP.out
            rw [hi] at h1 h2
            rw [hi]
            exact ⟨ownsRow_base h1 (fun _ _ => Nat.zero_le _), h2, HSo.out, HFr.out⟩
          clear hi
          go_wp2_with fail
          go_ret2
          exact ⟨_, O, rfl, HFI.out⟩

end Go.Proofs.Ytodgdbbhllejkaa
