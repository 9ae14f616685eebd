/- The document's own answer of whole: Bits. -/
import Derived.Test.YtllhekkclhcdbaaDoorKRn5
namespace Go.Proofs.YtllhekkclhcdbaaDoor
open Go.RowKit

/-- The two rows of numbers that Bits makes. -/
structure TAt (w : World) (gF gW : Nat) : Prop where
  f : ∀ j, j < 6 → w.cell? ⟨gF, j, none⟩ = some (.int .i64 (rowL j : Nat))
  w_ : ∀ j, j < 6 → w.cell? ⟨gW, j, none⟩ = some (.int .i64 (rowW j : Nat))
theorem TAt.kept {w w' : World} {gF gW : Nat} {S : Nat → Prop} (h : TAt w gF gW) (f : Fr S w w') (h1 : ¬ S gF) (h2 : ¬ S gW) : TAt w' gF gW := ⟨fun j hj => f.cell (h.f j hj) h1, fun j hj => f.cell (h.w_ j hj) h2⟩
theorem seen_of_T {w : World} {gF gW : Nat} (h : TAt w gF gW) : gF < w.heap.size ∧ gW < w.heap.size := ⟨World.block_lt_of_cell? w ⟨gF, 0, none⟩ (h.f 0 (by decide)), World.block_lt_of_cell? w ⟨gW, 0, none⟩ (h.w_ 0 (by decide))⟩
theorem tAt_new (w : World) : TAt ((w.alloc (.cells #[.int .i64 0, .int .i64 4, .int .i64 20, .int .i64 84, .int .i64 340, .int .i64 4436] 3)).alloc (.cells #[.int .i64 2, .int .i64 4, .int .i64 6, .int .i64 8, .int .i64 12, .int .i64 32] 3)) w.heap.size (w.heap.size + 1) := by
  have q2 := heap_alloc_new (w.alloc (.cells #[.int .i64 0, .int .i64 4, .int .i64 20, .int .i64 84, .int .i64 340, .int .i64 4436] 3)) (.cells #[.int .i64 2, .int .i64 4, .int .i64 6, .int .i64 8, .int .i64 12, .int .i64 32] 3)
  have q1 := heap_alloc_new w (.cells #[.int .i64 0, .int .i64 4, .int .i64 20, .int .i64 84, .int .i64 340, .int .i64 4436] 3)
  have q3 : ((w.alloc (.cells #[.int .i64 0, .int .i64 4, .int .i64 20, .int .i64 84, .int .i64 340, .int .i64 4436] 3)).alloc (.cells #[.int .i64 2, .int .i64 4, .int .i64 6, .int .i64 8, .int .i64 12, .int .i64 32] 3)).heap[w.heap.size]? = some (.cells #[.int .i64 0, .int .i64 4, .int .i64 20, .int .i64 84, .int .i64 340, .int .i64 4436] 3 (0, 0)) := by rw [Below.heap_alloc _ _ _ (by simp)]; exact q1
  simp only [World.size_alloc] at q2
  generalize ((w.alloc (.cells #[.int .i64 0, .int .i64 4, .int .i64 20, .int .i64 84, .int .i64 340, .int .i64 4436] 3)).alloc (.cells #[.int .i64 2, .int .i64 4, .int .i64 6, .int .i64 8, .int .i64 12, .int .i64 32] 3)) = W at *
  refine ⟨fun j hj => ?_, fun j hj => ?_⟩
  · match j, hj with
    | 0, _ => simp [World.cell?, q3, rowL]
    | 1, _ => simp [World.cell?, q3, rowL]
    | 2, _ => simp [World.cell?, q3, rowL]
    | 3, _ => simp [World.cell?, q3, rowL]
    | 4, _ => simp [World.cell?, q3, rowL]
    | 5, _ => simp [World.cell?, q3, rowL]
  · match j, hj with
    | 0, _ => simp [World.cell?, q2, rowW]
    | 1, _ => simp [World.cell?, q2, rowW]
    | 2, _ => simp [World.cell?, q2, rowW]
    | 3, _ => simp [World.cell?, q2, rowW]
    | 4, _ => simp [World.cell?, q2, rowW]
    | 5, _ => simp [World.cell?, q2, rowW]

theorem first_cell (w : World) (x : Obj) (a : Value) : ∀ (j : Nat) (u : Value), [a][j]? = some u → ((w.alloc x).alloc (.cells #[a] 3)).cell? ((⟨w.heap.size + 1, 0, none⟩ : Addr).add j) = some u := by
  intro j u hu
  have := cell_one_new (w.alloc x) a 3 j u hu
  rwa [World.size_alloc] at this

set_option maxRecDepth 100000 in
set_option maxHeartbeats 4000000 in
theorem bits5_num (w : World) (v : Int) (hmay : mayP v false = true) :
    Calls Tryd.prog 48 #[.agg #[.int .i64 v, .bool false]] w fun e w' => ∃ g c, e = .returned (.slice (some ⟨g, 0, none⟩) (numBits v false).length c) ∧ w'.ownsRow 0 3 1 (.slice (some ⟨g, 0, none⟩) (numBits v false).length c) (numBits v false).length (intCells (numBits v false)) ∧ Fr (fun _ => False) w w' ∧ w.heap.size ≤ g := by
  obtain ⟨i0, hi, hz0, hz1, hz2⟩ := info_parts Tryd.info3
  have hv : -2147483648 ≤ v ∧ v ≤ 2147483648 := by unfold mayP at hmay; simpa using hmay
  obtain ⟨FU, HFU⟩ : ∃ FU, Hid (FU = numBits v false) := ⟨_, rfl⟩
  obtain ⟨m, hm⟩ : ∃ m, m = v.natAbs := ⟨_, rfl⟩
  obtain ⟨KK, HKK⟩ : ∃ KK, Hid (KK = rowIx m) := ⟨_, rfl⟩
  obtain ⟨r, Hr⟩ : ∃ r, Hid (r = m - rowL KK) := ⟨_, rfl⟩
  have hm31 : m ≤ 2147483648 := by omega
  have hKK5 : KK ≤ 5 := by have := rowIx_lt m; have := HKK.out; omega
  have HR0 : Hid (r = m - rowL KK ∧ rowL KK ≤ m) := ⟨Hr.out, by rw [HKK.out]; exact (row_above hm31).1⟩
  have HFp : Hid (0 < FU.length) := by show _ < _; rw [HFU.out, numBits_parts v false hmay]; simp
  have HP : Hid (FU = signOf v false :: (hdB KK ++ hiBits r (rowW KK))) := by
    show _ = _
    have := numBits_parts v false hmay
    rw [show amountOf v false = m by rw [hm]; rfl] at this
    rw [HFU.out, this, Hr.out, HKK.out]
  rw [← HFU.out]
  have HA : Hid (Fr (fun _ => False) w (w.alloc (.cells #[.int .i64 v, .bool false] 46))) := (Fr.refl _ _).alloc _
  have hrow0 : ∀ w' : World, w'.ownsRow 0 3 1 (.slice none 0 0) 0 [] := fun w' => ⟨rfl, Or.inl ⟨rfl, rfl⟩⟩
  clear hmay
  by_cases hneg : v < 0
  · have hdn : decide (v < 0) = true := decide_eq_true hneg
    have hng : IntKind.i64.wrap (-v) = (m : Int) := by rw [IntKind.wrap_i64]; omega
    have HFU0 : Hid (FU = 1 :: (hdB KK ++ hiBits r (rowW KK))) := by
      show _ = _
      rw [HP.out, show signOf v false = 1 by unfold signOf; simp [hneg]]
    clear hneg hv hm
    go_enter Tryd.func48, Tryd.ntmps48
    go_wp2_with (first | (at_builtin; refine wpList_append_row _ rfl _ _ 64 rfl 3 i0 (.int .i64 0) 1 8 Tryd.underlying64 hi hz0 hz1 hz2 rfl (by decide) _ _ _ rfl (hrow0 _) ⟨w.heap.size + 1, 0, none⟩ 1 1 [.int .i64 1] rfl rfl (first_cell w _ _) ?_ ?_ ?_ (by decide) ?_))
    · intro u hu; simp at hu; subst hu; rfl
    · unfold maxLen; omega
    · omega
    · intro g2 cap2 w2 hown2 hgrow hat hc2 hm2
      have HO2 : Hid (w2.ownsRow 0 3 1 (.slice (some ⟨g2, 0, none⟩) 1 cap2) 1 (intCells [1])) := hown2
      have HF2 : Hid (Fr (fun _ => False) w w2) := (HA.out.alloc _).grown hgrow (fun j hj _ => by simp [Value.ownBlock] at hj)
      have HG2 : Hid (w.heap.size ≤ g2 ∧ g2 < w2.heap.size) := by
        refine ⟨?_, (hown2.lt g2 rfl).2⟩
        rcases hat with e | e
        · simp [Value.ownBlock] at e
        · have := HA.out.size
          have e2 : w.heap.size + 1 + 1 ≤ g2 := by simpa using e
          omega
      clear hown2 hgrow hat
      obtain ⟨gF, HgF⟩ : ∃ gF, Hid (gF = w2.heap.size) := ⟨_, rfl⟩
      obtain ⟨gW, HgW⟩ : ∃ gW, Hid (gW = w2.heap.size + 1) := ⟨_, rfl⟩
      have HT3 : Hid (TAt ((w2.alloc (.cells #[.int .i64 0, .int .i64 4, .int .i64 20, .int .i64 84, .int .i64 340, .int .i64 4436] 3)).alloc (.cells #[.int .i64 2, .int .i64 4, .int .i64 6, .int .i64 8, .int .i64 12, .int .i64 32] 3)) gF gW) := by rw [HgF.out, HgW.out]; exact tAt_new w2
      have HF3 : Hid (Fr (fun _ => False) w ((w2.alloc (.cells #[.int .i64 0, .int .i64 4, .int .i64 20, .int .i64 84, .int .i64 340, .int .i64 4436] 3)).alloc (.cells #[.int .i64 2, .int .i64 4, .int .i64 6, .int .i64 8, .int .i64 12, .int .i64 32] 3))) := (HF2.out.alloc _).alloc _
      have HO3 : Hid (((w2.alloc (.cells #[.int .i64 0, .int .i64 4, .int .i64 20, .int .i64 84, .int .i64 340, .int .i64 4436] 3)).alloc (.cells #[.int .i64 2, .int .i64 4, .int .i64 6, .int .i64 8, .int .i64 12, .int .i64 32] 3)).ownsRow 0 3 1 (.slice (some ⟨g2, 0, none⟩) 1 cap2) 1 (intCells [1])) := (HO2.out.alloc _).alloc _
      have HG3 : Hid (g2 ≠ gF ∧ g2 ≠ gW) := by have := HgF.out; have := HgW.out; have := HG2.out; exact ⟨by omega, by omega⟩
      go_wp2_with fail
      rw [← HgW.out, ← HgF.out]
      generalize ((w2.alloc (.cells #[.int .i64 0, .int .i64 4, .int .i64 20, .int .i64 84, .int .i64 340, .int .i64 4436] 3)).alloc (.cells #[.int .i64 2, .int .i64 4, .int .i64 6, .int .i64 8, .int .i64 12, .int .i64 32] 3)) = w3 at *
      go_loopw [4, 7] (fun l k wr => ∃ kk : Nat, kk ≤ KK ∧ k = .int .i64 kk ∧ wr.ownsRow 0 3 1 l (kk + 1) (intCells (1 :: List.replicate kk 1)) ∧ Fr (fun _ => False) w wr ∧ TAt wr gF gW ∧ (∀ g, l.ownBlock = some g → w.heap.size ≤ g ∧ g ≠ gF ∧ g ≠ gW)) (fun _ k _ => KK - (intOf k).toNat)
      case atStart => exact ⟨0, Nat.zero_le _, rfl, HO3.out, HF3.out, HT3.out, fun g hg => by simp [Value.ownBlock] at hg; subst hg; exact ⟨HG2.out.1, HG3.out⟩⟩
      case round =>
        obtain ⟨kk, hkk, rfl, hown, hfr, htt, hgg⟩ := hrel
        obtain ⟨ao, cp, rfl⟩ := row_slice hown
        have HO : Hid (wr.ownsRow 0 3 1 (.slice ao (kk + 1) cp) (kk + 1) (intCells (1 :: List.replicate kk 1))) := hown
        have HF : Hid (Fr (fun _ => False) w wr) := hfr
        have HT : Hid (TAt wr gF gW) := htt
        have HG : Hid (∀ g, (Value.slice ao (kk + 1) cp).ownBlock = some g → w.heap.size ≤ g ∧ g ≠ gF ∧ g ≠ gW) := hgg
        clear hown hfr htt hgg
        have hwj : IntKind.i64.wrap ((kk : Int) + 1) = (kk : Int) + 1 := by rw [IntKind.wrap_i64]; omega
        have hj0 : (0 : Int) ≤ (kk : Int) + 1 := by omega
        by_cases hlt : kk < KK
        · have hd5 : decide ((kk : Int) < 5) = true := decide_eq_true (by omega)
          have hj6 : (kk : Int) + 1 < 6 := by omega
          have cF := HT.out.f (kk + 1) (by omega)
          obtain ⟨fj, Hfj⟩ : ∃ fj, Hid (fj = rowL (kk + 1)) := ⟨_, rfl⟩
          rw [← Hfj.out] at cF
          have hge : decide (fj ≤ m) = true := decide_eq_true (by
            have h1 := (rowL_le m (kk + 1) (by omega)).2 (by have := HKK.out; omega)
            have := Hfj.out
            omega)
          go_wp2_with (first | (at_builtin; refine wpList_append_row _ rfl _ _ 64 rfl 3 i0 (.int .i64 0) 1 8 Tryd.underlying64 hi hz0 hz1 hz2 rfl (by decide) _ _ _ rfl (HO.out.alloc _) ⟨wr.heap.size, 0, none⟩ 1 1 [.int .i64 1] rfl rfl (cell_one_new _ _ _) ?_ ?_ ?_ (by decide) ?_))
          · intro u hu; simp at hu; subst hu; rfl
          · unfold maxLen; omega
          · omega
          · intro g4 cap4 w4 hown4 hgrow hat hc4 hm4
            have f4 := Fr.own hgrow
            have HO4 : Hid (w4.ownsRow 0 3 1 (.slice (some ⟨g4, 0, none⟩) (kk + 1 + 1) cap4) (kk + 1 + 1) (intCells (1 :: List.replicate (kk + 1) 1))) := by
              rw [show intCells (1 :: List.replicate (kk + 1) 1) = intCells (1 :: List.replicate kk 1) ++ [.int .i64 1] by rw [List.replicate_succ']; simp [intCells]]
              exact hown4
            have HF4 : Hid (Fr (fun _ => False) w w4) := HF.out.trans f4 (fun i hi e => by have := (HG.out i e).1; omega)
            have HT4 : Hid (TAt w4 gF gW) := HT.out.kept f4 (fun e => (HG.out _ e).2.1 rfl) (fun e => (HG.out _ e).2.2 rfl)
            have HG4 : Hid (w.heap.size ≤ g4 ∧ g4 ≠ gF ∧ g4 ≠ gW) := by
              rcases hat with e | e
              · exact HG.out g4 e
              · have e2 : wr.heap.size + 1 ≤ g4 := by simpa using e
                have := HF.out.size
                have := seen_of_T HT.out
                exact ⟨by omega, by omega, by omega⟩
            clear hown4 hgrow hat f4 cF
            go_wp2_with fail
            refine ⟨⟨kk + 1, by omega, congrArg (Value.int .i64) (by omega), HO4.out, HF4.out, HT4.out, fun g hg => ?_⟩, by simp [intOf]; omega⟩
            simp [Value.ownBlock] at hg; subst hg; exact HG4.out
        · obtain rfl : kk = KK := by omega
          have HKk : Hid (kk < 6) := by have := HKK.out; have := rowIx_lt m; show _ < _; omega
          have HRr : Hid (r = m - rowL kk ∧ rowL kk ≤ m) := HR0.out
          have cW := HT.out.w_ kk HKk.out
          obtain ⟨wd, Hwd⟩ : ∃ wd, Hid (wd = rowW kk) := ⟨_, rfl⟩
          rw [← Hwd.out] at cW
          have hwd32 : 2 ≤ wd ∧ wd ≤ 32 := by have := row_small m; have := HKK.out; rw [Hwd.out, HKK.out]; exact ⟨by omega, by omega⟩
          have hww : IntKind.i64.wrap ((wd : Int) - 1) = (wd : Int) - 1 := by rw [IntKind.wrap_i64]; omega
          have hkk0 : (0 : Int) ≤ (kk : Int) := by omega
          have hkk6 : (kk : Int) < 6 := by have := HKk.out; omega
          by_cases hk5 : kk < 5
          · have hd5 : decide ((kk : Int) < 5) = true := decide_eq_true (by omega)
            have hj6 : (kk : Int) + 1 < 6 := by omega
            have cF := HT.out.f (kk + 1) (by omega)
            obtain ⟨fj, Hfj⟩ : ∃ fj, Hid (fj = rowL (kk + 1)) := ⟨_, rfl⟩
            rw [← Hfj.out] at cF
            have hge : decide (fj ≤ m) = false := decide_eq_false (by
              have h1 := rowL_le m (kk + 1) (by omega)
              have := Hfj.out
              have := HKK.out
              omega)
            go_wp2_with (first | (at_builtin; refine wpList_append_row _ rfl _ _ 64 rfl 3 i0 (.int .i64 0) 1 8 Tryd.underlying64 hi hz0 hz1 hz2 rfl (by decide) _ _ _ rfl (HO.out.alloc _) ⟨wr.heap.size, 0, none⟩ 1 1 [.int .i64 0] rfl rfl (cell_one_new _ _ _) ?_ ?_ ?_ (by decide) ?_))
            · intro u hu; simp at hu; subst hu; rfl
            · unfold maxLen; omega
            · omega
            · intro g4 cap4 w4 hown4 hgrow hat hc4 hm4
              have f4 := Fr.own hgrow
              have HO4 : Hid (w4.ownsRow 0 3 1 (.slice (some ⟨g4, 0, none⟩) (kk + 1 + 1) cap4) (kk + 1 + 1) (intCells (1 :: (List.replicate kk 1 ++ [0])))) := by
                rw [show intCells (1 :: (List.replicate kk 1 ++ [0])) = intCells (1 :: List.replicate kk 1) ++ [.int .i64 0] by simp [intCells]]
                exact hown4
              have HF4 : Hid (Fr (fun _ => False) w w4) := HF.out.trans f4 (fun i hi e => by have := (HG.out i e).1; omega)
              have HT4 : Hid (TAt w4 gF gW) := HT.out.kept f4 (fun e => (HG.out _ e).2.1 rfl) (fun e => (HG.out _ e).2.2 rfl)
              have HG4 : Hid (w.heap.size ≤ g4 ∧ g4 ≠ gF ∧ g4 ≠ gW) := by
                rcases hat with e | e
                · exact HG.out g4 e
                · have e2 : wr.heap.size + 1 ≤ g4 := by simpa using e
                  have := HF.out.size
                  have := seen_of_T HT.out
                  exact ⟨by omega, by omega, by omega⟩
              have HH : Hid ((1 :: (List.replicate kk 1 ++ [0])) ++ hiBits r wd = FU ∧ (1 :: (List.replicate kk 1 ++ [0])).length = kk + 1 + 1) := by
                refine ⟨?_, by simp⟩
                rw [HFU0.out, Hwd.out]; unfold hdB; rw [if_pos hk5]; simp
              have cW4 := HT4.out.w_ kk HKk.out
              rw [← Hwd.out] at cW4
              clear hown4 hgrow hat f4 cF cW
              go_wp2_with fail
              go_loopw [4, 8] (fun l i wr => ∃ (ii : Nat) (xs : List Nat), i = .int .i64 ((ii : Int) - 1) ∧ ii ≤ 32 ∧ xs ++ hiBits r ii = FU ∧ xs.length + ii ≤ 40 ∧ wr.ownsRow 0 3 1 l xs.length (intCells xs) ∧ Fr (fun _ => False) w wr ∧ TAt wr gF gW ∧ (∀ g, l.ownBlock = some g → w.heap.size ≤ g ∧ g ≠ gF ∧ g ≠ gW)) (fun _ i _ => (intOf i + 1).toNat)
              case atStart => exact ⟨wd, _, by congr 1, hwd32.2, HH.out.1, by have := HH.out.2; have := HKk.out; omega, by rw [HH.out.2]; exact HO4.out, HF4.out, HT4.out, fun g hg => by simp [Value.ownBlock] at hg; subst hg; exact HG4.out⟩
              case round =>
                obtain ⟨ii, xs, rfl, hii, hfu, hlen, hown, hfr, htt, hgg⟩ := hrel
                obtain ⟨ao, cp, rfl⟩ := row_slice hown
                have HO : Hid (wr.ownsRow 0 3 1 (.slice ao xs.length cp) xs.length (intCells xs)) := hown
                have HF : Hid (Fr (fun _ => False) w wr) := hfr
                have HT : Hid (TAt wr gF gW) := htt
                have HG : Hid (∀ g, (Value.slice ao xs.length cp).ownBlock = some g → w.heap.size ≤ g ∧ g ≠ gF ∧ g ≠ gW) := hgg
                have HFU : Hid (xs ++ hiBits r ii = FU) := hfu
                clear hown hfr htt hgg hfu
                cases ii with
                | zero =>
                  have hd9 : decide ((0 : Int) ≤ ((0 : Nat) : Int) - 1) = false := decide_eq_false (by omega)
                  have HE : Hid (FU = xs) := by show _ = _; rw [← HFU.out]; simp [hiBits]
                  have hxp : 0 < xs.length := by
                    have := HFp.out
                    rw [HE.out] at this
                    exact this
                  go_wp2_with fail
                  go_ret
                  rw [HE.out]
                  obtain ⟨g, c, e, _⟩ := row_form HO.out hxp
                  simp only [Value.slice.injEq] at e
                  obtain ⟨rfl, _, rfl⟩ := e
                  exact ⟨g, cp, rfl, HO.out, HF.out, (HG.out g rfl).1⟩
                | succ ii =>
                  have hi1 : (((ii + 1 : Nat) : Int) - 1) = (ii : Int) := by omega
                  rw [hi1]
                  have hd9 : decide ((0 : Int) ≤ (ii : Int)) = true := decide_eq_true (by omega)
                  have cF := HT.out.f kk HKk.out
                  obtain ⟨fk, Hfk⟩ : ∃ fk, Hid (fk = rowL kk) := ⟨_, rfl⟩
                  rw [← Hfk.out] at cF
                  have hwr : IntKind.i64.wrap ((m : Int) - (fk : Int)) = (r : Int) := by
                    have := HRr.out
                    have := Hfk.out
                    rw [IntKind.wrap_i64]; omega
                  have hku : IntKind.u64.wrap (ii : Int) = (ii : Int) := by rw [IntKind.wrap_u64]; omega
                  obtain ⟨eb, Heb⟩ : ∃ eb, Hid (eb = r / 2 ^ ii % 2) := ⟨_, rfl⟩
                  have hsh : bits BinOp.and IntKind.i64 ((r : Int) / 2 ^ ii) 1 = (eb : Int) := by
                    rw [lowBit_and, Heb.out]
                    unfold lowBit
                    have : ((r : Int) / 2 ^ ii) = ((r / 2 ^ ii : Nat) : Int) := by push_cast; rfl
                    rw [this]
                    omega
                  have hmin : min ii 64 = ii := by omega
                  have hkk0 : (0 : Int) ≤ (kk : Int) := by omega
                  have hkk6 : (kk : Int) < 6 := by have := HKk.out; omega
                  go_wp2_with (first | (at_builtin; refine wpList_append_row _ rfl _ _ 64 rfl 3 i0 (.int .i64 0) 1 8 Tryd.underlying64 hi hz0 hz1 hz2 rfl (by decide) _ _ _ rfl (HO.out.alloc _) ⟨wr.heap.size, 0, none⟩ 1 1 [.int .i64 (eb : Int)] rfl rfl (cell_one_new _ _ _) ?_ ?_ ?_ (by decide) ?_))
                  · intro u hu; simp at hu; subst hu; rfl
                  · unfold maxLen; omega
                  · omega
                  · intro g2 cap2 w2 hown2 hgrow hat hc2 hm2
                    have f2 := Fr.own hgrow
                    have HO2 : Hid (w2.ownsRow 0 3 1 (.slice (some ⟨g2, 0, none⟩) (xs.length + 1) cap2) (xs.length + 1) (intCells (xs ++ [eb]))) := by
                      rw [show intCells (xs ++ [eb]) = intCells xs ++ [.int .i64 (eb : Int)] by simp [intCells]]
                      exact hown2
                    have HF2 : Hid (Fr (fun _ => False) w w2) := HF.out.trans f2 (fun i hi e => by have := (HG.out i e).1; omega)
                    have HT2 : Hid (TAt w2 gF gW) := HT.out.kept f2 (fun e => (HG.out _ e).2.1 rfl) (fun e => (HG.out _ e).2.2 rfl)
                    have HG2 : Hid (w.heap.size ≤ g2 ∧ g2 ≠ gF ∧ g2 ≠ gW) := by
                      rcases hat with e | e
                      · exact HG.out g2 e
                      · have e2 : wr.heap.size + 1 ≤ g2 := by simpa using e
                        have := HF.out.size
                        have := seen_of_T HT.out
                        exact ⟨by omega, by omega, by omega⟩
                    have HU2 : Hid (xs ++ [eb] ++ hiBits r ii = FU) := by
                      show _ = _
                      rw [← HFU.out, Heb.out]
                      simp [hiBits]
                    clear hown2 hgrow hat f2 cF
                    go_wp2_with fail
                    refine ⟨⟨ii, xs ++ [eb], by congr 1, by omega, HU2.out, by simp only [List.length_append, List.length_singleton]; omega, by rw [List.length_append]; exact HO2.out, HF2.out, HT2.out, fun g hg => ?_⟩, by simp only [intOf]; omega⟩
                    simp [Value.ownBlock] at hg; subst hg; exact HG2.out
          · have hd5 : decide ((kk : Int) < 5) = false := decide_eq_false (by omega)
            have HH : Hid ((1 :: List.replicate kk 1) ++ hiBits r wd = FU ∧ (1 :: List.replicate kk 1).length = kk + 1) := by
              refine ⟨?_, by simp⟩
              rw [HFU0.out, Hwd.out]; unfold hdB; rw [if_neg hk5]; simp
            go_wp2_with fail
            go_loopw [4, 8] (fun l i wr => ∃ (ii : Nat) (xs : List Nat), i = .int .i64 ((ii : Int) - 1) ∧ ii ≤ 32 ∧ xs ++ hiBits r ii = FU ∧ xs.length + ii ≤ 40 ∧ wr.ownsRow 0 3 1 l xs.length (intCells xs) ∧ Fr (fun _ => False) w wr ∧ TAt wr gF gW ∧ (∀ g, l.ownBlock = some g → w.heap.size ≤ g ∧ g ≠ gF ∧ g ≠ gW)) (fun _ i _ => (intOf i + 1).toNat)
            case atStart => exact ⟨wd, _, by congr 1, hwd32.2, HH.out.1, by have := HH.out.2; have := HKk.out; omega, by rw [HH.out.2]; exact HO.out, HF.out, HT.out, HG.out⟩
            case round =>
              obtain ⟨ii, xs, rfl, hii, hfu, hlen, hown, hfr, htt, hgg⟩ := hrel
              obtain ⟨ao, cp, rfl⟩ := row_slice hown
              have HO : Hid (wr.ownsRow 0 3 1 (.slice ao xs.length cp) xs.length (intCells xs)) := hown
              have HF : Hid (Fr (fun _ => False) w wr) := hfr
              have HT : Hid (TAt wr gF gW) := htt
              have HG : Hid (∀ g, (Value.slice ao xs.length cp).ownBlock = some g → w.heap.size ≤ g ∧ g ≠ gF ∧ g ≠ gW) := hgg
              have HFU : Hid (xs ++ hiBits r ii = FU) := hfu
              clear hown hfr htt hgg hfu
              cases ii with
              | zero =>
                have hd9 : decide ((0 : Int) ≤ ((0 : Nat) : Int) - 1) = false := decide_eq_false (by omega)
                have HE : Hid (FU = xs) := by show _ = _; rw [← HFU.out]; simp [hiBits]
                have hxp : 0 < xs.length := by
                  have := HFp.out
                  rw [HE.out] at this
                  exact this
                go_wp2_with fail
                go_ret
                rw [HE.out]
                obtain ⟨g, c, e, _⟩ := row_form HO.out hxp
                simp only [Value.slice.injEq] at e
                obtain ⟨rfl, _, rfl⟩ := e
                exact ⟨g, cp, rfl, HO.out, HF.out, (HG.out g rfl).1⟩
              | succ ii =>
                have hi1 : (((ii + 1 : Nat) : Int) - 1) = (ii : Int) := by omega
                rw [hi1]
                have hd9 : decide ((0 : Int) ≤ (ii : Int)) = true := decide_eq_true (by omega)
                have cF := HT.out.f kk HKk.out
                obtain ⟨fk, Hfk⟩ : ∃ fk, Hid (fk = rowL kk) := ⟨_, rfl⟩
                rw [← Hfk.out] at cF
                have hwr : IntKind.i64.wrap ((m : Int) - (fk : Int)) = (r : Int) := by
                  have := HRr.out
                  have := Hfk.out
                  rw [IntKind.wrap_i64]; omega
                have hku : IntKind.u64.wrap (ii : Int) = (ii : Int) := by rw [IntKind.wrap_u64]; omega
                obtain ⟨eb, Heb⟩ : ∃ eb, Hid (eb = r / 2 ^ ii % 2) := ⟨_, rfl⟩
                have hsh : bits BinOp.and IntKind.i64 ((r : Int) / 2 ^ ii) 1 = (eb : Int) := by
                  rw [lowBit_and, Heb.out]
                  unfold lowBit
                  have : ((r : Int) / 2 ^ ii) = ((r / 2 ^ ii : Nat) : Int) := by push_cast; rfl
                  rw [this]
                  omega
                have hmin : min ii 64 = ii := by omega
                have hkk0 : (0 : Int) ≤ (kk : Int) := by omega
                have hkk6 : (kk : Int) < 6 := by have := HKk.out; omega
                go_wp2_with (first | (at_builtin; refine wpList_append_row _ rfl _ _ 64 rfl 3 i0 (.int .i64 0) 1 8 Tryd.underlying64 hi hz0 hz1 hz2 rfl (by decide) _ _ _ rfl (HO.out.alloc _) ⟨wr.heap.size, 0, none⟩ 1 1 [.int .i64 (eb : Int)] rfl rfl (cell_one_new _ _ _) ?_ ?_ ?_ (by decide) ?_))
                · intro u hu; simp at hu; subst hu; rfl
                · unfold maxLen; omega
                · omega
                · intro g2 cap2 w2 hown2 hgrow hat hc2 hm2
                  have f2 := Fr.own hgrow
                  have HO2 : Hid (w2.ownsRow 0 3 1 (.slice (some ⟨g2, 0, none⟩) (xs.length + 1) cap2) (xs.length + 1) (intCells (xs ++ [eb]))) := by
                    rw [show intCells (xs ++ [eb]) = intCells xs ++ [.int .i64 (eb : Int)] by simp [intCells]]
                    exact hown2
                  have HF2 : Hid (Fr (fun _ => False) w w2) := HF.out.trans f2 (fun i hi e => by have := (HG.out i e).1; omega)
                  have HT2 : Hid (TAt w2 gF gW) := HT.out.kept f2 (fun e => (HG.out _ e).2.1 rfl) (fun e => (HG.out _ e).2.2 rfl)
                  have HG2 : Hid (w.heap.size ≤ g2 ∧ g2 ≠ gF ∧ g2 ≠ gW) := by
                    rcases hat with e | e
                    · exact HG.out g2 e
                    · have e2 : wr.heap.size + 1 ≤ g2 := by simpa using e
                      have := HF.out.size
                      have := seen_of_T HT.out
                      exact ⟨by omega, by omega, by omega⟩
                  have HU2 : Hid (xs ++ [eb] ++ hiBits r ii = FU) := by
                    show _ = _
                    rw [← HFU.out, Heb.out]
                    simp [hiBits]
                  clear hown2 hgrow hat f2 cF
                  go_wp2_with fail
                  refine ⟨⟨ii, xs ++ [eb], by congr 1, by omega, HU2.out, by simp only [List.length_append, List.length_singleton]; omega, by rw [List.length_append]; exact HO2.out, HF2.out, HT2.out, fun g hg => ?_⟩, by simp only [intOf]; omega⟩
                  simp [Value.ownBlock] at hg; subst hg; exact HG2.out
  · have hdn : decide (v < 0) = false := decide_eq_false hneg
    have hvm : v = (m : Int) := by omega
    have HFU0 : Hid (FU = 0 :: (hdB KK ++ hiBits r (rowW KK))) := by
      show _ = _
      rw [HP.out, show signOf v false = 0 by unfold signOf; simp [hneg]]
    clear hneg hv hm
    subst hvm
    go_enter Tryd.func48, Tryd.ntmps48
    go_wp2_with (first | (at_builtin; refine wpList_append_row _ rfl _ _ 64 rfl 3 i0 (.int .i64 0) 1 8 Tryd.underlying64 hi hz0 hz1 hz2 rfl (by decide) _ _ _ rfl (hrow0 _) ⟨w.heap.size + 1, 0, none⟩ 1 1 [.int .i64 0] rfl rfl (first_cell w _ _) ?_ ?_ ?_ (by decide) ?_))
    · intro u hu; simp at hu; subst hu; rfl
    · unfold maxLen; omega
    · omega
    · intro g2 cap2 w2 hown2 hgrow hat hc2 hm2
      have HO2 : Hid (w2.ownsRow 0 3 1 (.slice (some ⟨g2, 0, none⟩) 1 cap2) 1 (intCells [0])) := hown2
      have HF2 : Hid (Fr (fun _ => False) w w2) := (HA.out.alloc _).grown hgrow (fun j hj _ => by simp [Value.ownBlock] at hj)
      have HG2 : Hid (w.heap.size ≤ g2 ∧ g2 < w2.heap.size) := by
        refine ⟨?_, (hown2.lt g2 rfl).2⟩
        rcases hat with e | e
        · simp [Value.ownBlock] at e
        · have := HA.out.size
          have e2 : w.heap.size + 1 + 1 ≤ g2 := by simpa using e
          omega
      clear hown2 hgrow hat
      obtain ⟨gF, HgF⟩ : ∃ gF, Hid (gF = w2.heap.size) := ⟨_, rfl⟩
      obtain ⟨gW, HgW⟩ : ∃ gW, Hid (gW = w2.heap.size + 1) := ⟨_, rfl⟩
      have HT3 : Hid (TAt ((w2.alloc (.cells #[.int .i64 0, .int .i64 4, .int .i64 20, .int .i64 84, .int .i64 340, .int .i64 4436] 3)).alloc (.cells #[.int .i64 2, .int .i64 4, .int .i64 6, .int .i64 8, .int .i64 12, .int .i64 32] 3)) gF gW) := by rw [HgF.out, HgW.out]; exact tAt_new w2
      have HF3 : Hid (Fr (fun _ => False) w ((w2.alloc (.cells #[.int .i64 0, .int .i64 4, .int .i64 20, .int .i64 84, .int .i64 340, .int .i64 4436] 3)).alloc (.cells #[.int .i64 2, .int .i64 4, .int .i64 6, .int .i64 8, .int .i64 12, .int .i64 32] 3))) := (HF2.out.alloc _).alloc _
      have HO3 : Hid (((w2.alloc (.cells #[.int .i64 0, .int .i64 4, .int .i64 20, .int .i64 84, .int .i64 340, .int .i64 4436] 3)).alloc (.cells #[.int .i64 2, .int .i64 4, .int .i64 6, .int .i64 8, .int .i64 12, .int .i64 32] 3)).ownsRow 0 3 1 (.slice (some ⟨g2, 0, none⟩) 1 cap2) 1 (intCells [0])) := (HO2.out.alloc _).alloc _
      have HG3 : Hid (g2 ≠ gF ∧ g2 ≠ gW) := by have := HgF.out; have := HgW.out; have := HG2.out; exact ⟨by omega, by omega⟩
      go_wp2_with fail
      rw [← HgW.out, ← HgF.out]
      generalize ((w2.alloc (.cells #[.int .i64 0, .int .i64 4, .int .i64 20, .int .i64 84, .int .i64 340, .int .i64 4436] 3)).alloc (.cells #[.int .i64 2, .int .i64 4, .int .i64 6, .int .i64 8, .int .i64 12, .int .i64 32] 3)) = w3 at *
      go_loopw [4, 7] (fun l k wr => ∃ kk : Nat, kk ≤ KK ∧ k = .int .i64 kk ∧ wr.ownsRow 0 3 1 l (kk + 1) (intCells (0 :: List.replicate kk 1)) ∧ Fr (fun _ => False) w wr ∧ TAt wr gF gW ∧ (∀ g, l.ownBlock = some g → w.heap.size ≤ g ∧ g ≠ gF ∧ g ≠ gW)) (fun _ k _ => KK - (intOf k).toNat)
      case atStart => exact ⟨0, Nat.zero_le _, rfl, HO3.out, HF3.out, HT3.out, fun g hg => by simp [Value.ownBlock] at hg; subst hg; exact ⟨HG2.out.1, HG3.out⟩⟩
      case round =>
        obtain ⟨kk, hkk, rfl, hown, hfr, htt, hgg⟩ := hrel
        obtain ⟨ao, cp, rfl⟩ := row_slice hown
        have HO : Hid (wr.ownsRow 0 3 1 (.slice ao (kk + 1) cp) (kk + 1) (intCells (0 :: List.replicate kk 1))) := hown
        have HF : Hid (Fr (fun _ => False) w wr) := hfr
        have HT : Hid (TAt wr gF gW) := htt
        have HG : Hid (∀ g, (Value.slice ao (kk + 1) cp).ownBlock = some g → w.heap.size ≤ g ∧ g ≠ gF ∧ g ≠ gW) := hgg
        clear hown hfr htt hgg
        have hwj : IntKind.i64.wrap ((kk : Int) + 1) = (kk : Int) + 1 := by rw [IntKind.wrap_i64]; omega
        have hj0 : (0 : Int) ≤ (kk : Int) + 1 := by omega
        by_cases hlt : kk < KK
        · have hd5 : decide ((kk : Int) < 5) = true := decide_eq_true (by omega)
          have hj6 : (kk : Int) + 1 < 6 := by omega
          have cF := HT.out.f (kk + 1) (by omega)
          obtain ⟨fj, Hfj⟩ : ∃ fj, Hid (fj = rowL (kk + 1)) := ⟨_, rfl⟩
          rw [← Hfj.out] at cF
          have hge : decide (fj ≤ m) = true := decide_eq_true (by
            have h1 := (rowL_le m (kk + 1) (by omega)).2 (by have := HKK.out; omega)
            have := Hfj.out
            omega)
          go_wp2_with (first | (at_builtin; refine wpList_append_row _ rfl _ _ 64 rfl 3 i0 (.int .i64 0) 1 8 Tryd.underlying64 hi hz0 hz1 hz2 rfl (by decide) _ _ _ rfl (HO.out.alloc _) ⟨wr.heap.size, 0, none⟩ 1 1 [.int .i64 1] rfl rfl (cell_one_new _ _ _) ?_ ?_ ?_ (by decide) ?_))
          · intro u hu; simp at hu; subst hu; rfl
          · unfold maxLen; omega
          · omega
          · intro g4 cap4 w4 hown4 hgrow hat hc4 hm4
            have f4 := Fr.own hgrow
            have HO4 : Hid (w4.ownsRow 0 3 1 (.slice (some ⟨g4, 0, none⟩) (kk + 1 + 1) cap4) (kk + 1 + 1) (intCells (0 :: List.replicate (kk + 1) 1))) := by
              rw [show intCells (0 :: List.replicate (kk + 1) 1) = intCells (0 :: List.replicate kk 1) ++ [.int .i64 1] by rw [List.replicate_succ']; simp [intCells]]
              exact hown4
            have HF4 : Hid (Fr (fun _ => False) w w4) := HF.out.trans f4 (fun i hi e => by have := (HG.out i e).1; omega)
            have HT4 : Hid (TAt w4 gF gW) := HT.out.kept f4 (fun e => (HG.out _ e).2.1 rfl) (fun e => (HG.out _ e).2.2 rfl)
            have HG4 : Hid (w.heap.size ≤ g4 ∧ g4 ≠ gF ∧ g4 ≠ gW) := by
              rcases hat with e | e
              · exact HG.out g4 e
              · have e2 : wr.heap.size + 1 ≤ g4 := by simpa using e
                have := HF.out.size
                have := seen_of_T HT.out
                exact ⟨by omega, by omega, by omega⟩
            clear hown4 hgrow hat f4 cF
            go_wp2_with fail
            refine ⟨⟨kk + 1, by omega, congrArg (Value.int .i64) (by omega), HO4.out, HF4.out, HT4.out, fun g hg => ?_⟩, by simp [intOf]; omega⟩
            simp [Value.ownBlock] at hg; subst hg; exact HG4.out
        · obtain rfl : kk = KK := by omega
          have HKk : Hid (kk < 6) := by have := HKK.out; have := rowIx_lt m; show _ < _; omega
          have HRr : Hid (r = m - rowL kk ∧ rowL kk ≤ m) := HR0.out
          have cW := HT.out.w_ kk HKk.out
          obtain ⟨wd, Hwd⟩ : ∃ wd, Hid (wd = rowW kk) := ⟨_, rfl⟩
          rw [← Hwd.out] at cW
          have hwd32 : 2 ≤ wd ∧ wd ≤ 32 := by have := row_small m; have := HKK.out; rw [Hwd.out, HKK.out]; exact ⟨by omega, by omega⟩
          have hww : IntKind.i64.wrap ((wd : Int) - 1) = (wd : Int) - 1 := by rw [IntKind.wrap_i64]; omega
          have hkk0 : (0 : Int) ≤ (kk : Int) := by omega
          have hkk6 : (kk : Int) < 6 := by have := HKk.out; omega
          by_cases hk5 : kk < 5
          · have hd5 : decide ((kk : Int) < 5) = true := decide_eq_true (by omega)
            have hj6 : (kk : Int) + 1 < 6 := by omega
            have cF := HT.out.f (kk + 1) (by omega)
            obtain ⟨fj, Hfj⟩ : ∃ fj, Hid (fj = rowL (kk + 1)) := ⟨_, rfl⟩
            rw [← Hfj.out] at cF
            have hge : decide (fj ≤ m) = false := decide_eq_false (by
              have h1 := rowL_le m (kk + 1) (by omega)
              have := Hfj.out
              have := HKK.out
              omega)
            go_wp2_with (first | (at_builtin; refine wpList_append_row _ rfl _ _ 64 rfl 3 i0 (.int .i64 0) 1 8 Tryd.underlying64 hi hz0 hz1 hz2 rfl (by decide) _ _ _ rfl (HO.out.alloc _) ⟨wr.heap.size, 0, none⟩ 1 1 [.int .i64 0] rfl rfl (cell_one_new _ _ _) ?_ ?_ ?_ (by decide) ?_))
            · intro u hu; simp at hu; subst hu; rfl
            · unfold maxLen; omega
            · omega
            · intro g4 cap4 w4 hown4 hgrow hat hc4 hm4
              have f4 := Fr.own hgrow
              have HO4 : Hid (w4.ownsRow 0 3 1 (.slice (some ⟨g4, 0, none⟩) (kk + 1 + 1) cap4) (kk + 1 + 1) (intCells (0 :: (List.replicate kk 1 ++ [0])))) := by
                rw [show intCells (0 :: (List.replicate kk 1 ++ [0])) = intCells (0 :: List.replicate kk 1) ++ [.int .i64 0] by simp [intCells]]
                exact hown4
              have HF4 : Hid (Fr (fun _ => False) w w4) := HF.out.trans f4 (fun i hi e => by have := (HG.out i e).1; omega)
              have HT4 : Hid (TAt w4 gF gW) := HT.out.kept f4 (fun e => (HG.out _ e).2.1 rfl) (fun e => (HG.out _ e).2.2 rfl)
              have HG4 : Hid (w.heap.size ≤ g4 ∧ g4 ≠ gF ∧ g4 ≠ gW) := by
                rcases hat with e | e
                · exact HG.out g4 e
                · have e2 : wr.heap.size + 1 ≤ g4 := by simpa using e
                  have := HF.out.size
                  have := seen_of_T HT.out
                  exact ⟨by omega, by omega, by omega⟩
              have HH : Hid ((0 :: (List.replicate kk 1 ++ [0])) ++ hiBits r wd = FU ∧ (0 :: (List.replicate kk 1 ++ [0])).length = kk + 1 + 1) := by
                refine ⟨?_, by simp⟩
                rw [HFU0.out, Hwd.out]; unfold hdB; rw [if_pos hk5]; simp
              have cW4 := HT4.out.w_ kk HKk.out
              rw [← Hwd.out] at cW4
              clear hown4 hgrow hat f4 cF cW
              go_wp2_with fail
              go_loopw [4, 8] (fun l i wr => ∃ (ii : Nat) (xs : List Nat), i = .int .i64 ((ii : Int) - 1) ∧ ii ≤ 32 ∧ xs ++ hiBits r ii = FU ∧ xs.length + ii ≤ 40 ∧ wr.ownsRow 0 3 1 l xs.length (intCells xs) ∧ Fr (fun _ => False) w wr ∧ TAt wr gF gW ∧ (∀ g, l.ownBlock = some g → w.heap.size ≤ g ∧ g ≠ gF ∧ g ≠ gW)) (fun _ i _ => (intOf i + 1).toNat)
              case atStart => exact ⟨wd, _, by congr 1, hwd32.2, HH.out.1, by have := HH.out.2; have := HKk.out; omega, by rw [HH.out.2]; exact HO4.out, HF4.out, HT4.out, fun g hg => by simp [Value.ownBlock] at hg; subst hg; exact HG4.out⟩
              case round =>
                obtain ⟨ii, xs, rfl, hii, hfu, hlen, hown, hfr, htt, hgg⟩ := hrel
                obtain ⟨ao, cp, rfl⟩ := row_slice hown
                have HO : Hid (wr.ownsRow 0 3 1 (.slice ao xs.length cp) xs.length (intCells xs)) := hown
                have HF : Hid (Fr (fun _ => False) w wr) := hfr
                have HT : Hid (TAt wr gF gW) := htt
                have HG : Hid (∀ g, (Value.slice ao xs.length cp).ownBlock = some g → w.heap.size ≤ g ∧ g ≠ gF ∧ g ≠ gW) := hgg
                have HFU : Hid (xs ++ hiBits r ii = FU) := hfu
                clear hown hfr htt hgg hfu
                cases ii with
                | zero =>
                  have hd9 : decide ((0 : Int) ≤ ((0 : Nat) : Int) - 1) = false := decide_eq_false (by omega)
                  have HE : Hid (FU = xs) := by show _ = _; rw [← HFU.out]; simp [hiBits]
                  have hxp : 0 < xs.length := by
                    have := HFp.out
                    rw [HE.out] at this
                    exact this
                  go_wp2_with fail
                  go_ret
                  rw [HE.out]
                  obtain ⟨g, c, e, _⟩ := row_form HO.out hxp
                  simp only [Value.slice.injEq] at e
                  obtain ⟨rfl, _, rfl⟩ := e
                  exact ⟨g, cp, rfl, HO.out, HF.out, (HG.out g rfl).1⟩
                | succ ii =>
                  have hi1 : (((ii + 1 : Nat) : Int) - 1) = (ii : Int) := by omega
                  rw [hi1]
                  have hd9 : decide ((0 : Int) ≤ (ii : Int)) = true := decide_eq_true (by omega)
                  have cF := HT.out.f kk HKk.out
                  obtain ⟨fk, Hfk⟩ : ∃ fk, Hid (fk = rowL kk) := ⟨_, rfl⟩
                  rw [← Hfk.out] at cF
                  have hwr : IntKind.i64.wrap ((m : Int) - (fk : Int)) = (r : Int) := by
                    have := HRr.out
                    have := Hfk.out
                    rw [IntKind.wrap_i64]; omega
                  have hku : IntKind.u64.wrap (ii : Int) = (ii : Int) := by rw [IntKind.wrap_u64]; omega
                  obtain ⟨eb, Heb⟩ : ∃ eb, Hid (eb = r / 2 ^ ii % 2) := ⟨_, rfl⟩
                  have hsh : bits BinOp.and IntKind.i64 ((r : Int) / 2 ^ ii) 1 = (eb : Int) := by
                    rw [lowBit_and, Heb.out]
                    unfold lowBit
                    have : ((r : Int) / 2 ^ ii) = ((r / 2 ^ ii : Nat) : Int) := by push_cast; rfl
                    rw [this]
                    omega
                  have hmin : min ii 64 = ii := by omega
                  have hkk0 : (0 : Int) ≤ (kk : Int) := by omega
                  have hkk6 : (kk : Int) < 6 := by have := HKk.out; omega
                  go_wp2_with (first | (at_builtin; refine wpList_append_row _ rfl _ _ 64 rfl 3 i0 (.int .i64 0) 1 8 Tryd.underlying64 hi hz0 hz1 hz2 rfl (by decide) _ _ _ rfl (HO.out.alloc _) ⟨wr.heap.size, 0, none⟩ 1 1 [.int .i64 (eb : Int)] rfl rfl (cell_one_new _ _ _) ?_ ?_ ?_ (by decide) ?_))
                  · intro u hu; simp at hu; subst hu; rfl
                  · unfold maxLen; omega
                  · omega
                  · intro g2 cap2 w2 hown2 hgrow hat hc2 hm2
                    have f2 := Fr.own hgrow
                    have HO2 : Hid (w2.ownsRow 0 3 1 (.slice (some ⟨g2, 0, none⟩) (xs.length + 1) cap2) (xs.length + 1) (intCells (xs ++ [eb]))) := by
                      rw [show intCells (xs ++ [eb]) = intCells xs ++ [.int .i64 (eb : Int)] by simp [intCells]]
                      exact hown2
                    have HF2 : Hid (Fr (fun _ => False) w w2) := HF.out.trans f2 (fun i hi e => by have := (HG.out i e).1; omega)
                    have HT2 : Hid (TAt w2 gF gW) := HT.out.kept f2 (fun e => (HG.out _ e).2.1 rfl) (fun e => (HG.out _ e).2.2 rfl)
                    have HG2 : Hid (w.heap.size ≤ g2 ∧ g2 ≠ gF ∧ g2 ≠ gW) := by
                      rcases hat with e | e
                      · exact HG.out g2 e
                      · have e2 : wr.heap.size + 1 ≤ g2 := by simpa using e
                        have := HF.out.size
                        have := seen_of_T HT.out
                        exact ⟨by omega, by omega, by omega⟩
                    have HU2 : Hid (xs ++ [eb] ++ hiBits r ii = FU) := by
                      show _ = _
                      rw [← HFU.out, Heb.out]
                      simp [hiBits]
                    clear hown2 hgrow hat f2 cF
                    go_wp2_with fail
                    refine ⟨⟨ii, xs ++ [eb], by congr 1, by omega, HU2.out, by simp only [List.length_append, List.length_singleton]; omega, by rw [List.length_append]; exact HO2.out, HF2.out, HT2.out, fun g hg => ?_⟩, by simp only [intOf]; omega⟩
                    simp [Value.ownBlock] at hg; subst hg; exact HG2.out
          · have hd5 : decide ((kk : Int) < 5) = false := decide_eq_false (by omega)
            have HH : Hid ((0 :: List.replicate kk 1) ++ hiBits r wd = FU ∧ (0 :: List.replicate kk 1).length = kk + 1) := by
              refine ⟨?_, by simp⟩
              rw [HFU0.out, Hwd.out]; unfold hdB; rw [if_neg hk5]; simp
            go_wp2_with fail
            go_loopw [4, 8] (fun l i wr => ∃ (ii : Nat) (xs : List Nat), i = .int .i64 ((ii : Int) - 1) ∧ ii ≤ 32 ∧ xs ++ hiBits r ii = FU ∧ xs.length + ii ≤ 40 ∧ wr.ownsRow 0 3 1 l xs.length (intCells xs) ∧ Fr (fun _ => False) w wr ∧ TAt wr gF gW ∧ (∀ g, l.ownBlock = some g → w.heap.size ≤ g ∧ g ≠ gF ∧ g ≠ gW)) (fun _ i _ => (intOf i + 1).toNat)
            case atStart => exact ⟨wd, _, by congr 1, hwd32.2, HH.out.1, by have := HH.out.2; have := HKk.out; omega, by rw [HH.out.2]; exact HO.out, HF.out, HT.out, HG.out⟩
            case round =>
              obtain ⟨ii, xs, rfl, hii, hfu, hlen, hown, hfr, htt, hgg⟩ := hrel
              obtain ⟨ao, cp, rfl⟩ := row_slice hown
              have HO : Hid (wr.ownsRow 0 3 1 (.slice ao xs.length cp) xs.length (intCells xs)) := hown
              have HF : Hid (Fr (fun _ => False) w wr) := hfr
              have HT : Hid (TAt wr gF gW) := htt
              have HG : Hid (∀ g, (Value.slice ao xs.length cp).ownBlock = some g → w.heap.size ≤ g ∧ g ≠ gF ∧ g ≠ gW) := hgg
              have HFU : Hid (xs ++ hiBits r ii = FU) := hfu
              clear hown hfr htt hgg hfu
              cases ii with
              | zero =>
                have hd9 : decide ((0 : Int) ≤ ((0 : Nat) : Int) - 1) = false := decide_eq_false (by omega)
                have HE : Hid (FU = xs) := by show _ = _; rw [← HFU.out]; simp [hiBits]
                have hxp : 0 < xs.length := by
                  have := HFp.out
                  rw [HE.out] at this
                  exact this
                go_wp2_with fail
                go_ret
                rw [HE.out]
                obtain ⟨g, c, e, _⟩ := row_form HO.out hxp
                simp only [Value.slice.injEq] at e
                obtain ⟨rfl, _, rfl⟩ := e
                exact ⟨g, cp, rfl, HO.out, HF.out, (HG.out g rfl).1⟩
              | succ ii =>
                have hi1 : (((ii + 1 : Nat) : Int) - 1) = (ii : Int) := by omega
                rw [hi1]
                have hd9 : decide ((0 : Int) ≤ (ii : Int)) = true := decide_eq_true (by omega)
                have cF := HT.out.f kk HKk.out
                obtain ⟨fk, Hfk⟩ : ∃ fk, Hid (fk = rowL kk) := ⟨_, rfl⟩
                rw [← Hfk.out] at cF
                have hwr : IntKind.i64.wrap ((m : Int) - (fk : Int)) = (r : Int) := by
                  have := HRr.out
                  have := Hfk.out
                  rw [IntKind.wrap_i64]; omega
                have hku : IntKind.u64.wrap (ii : Int) = (ii : Int) := by rw [IntKind.wrap_u64]; omega
                obtain ⟨eb, Heb⟩ : ∃ eb, Hid (eb = r / 2 ^ ii % 2) := ⟨_, rfl⟩
                have hsh : bits BinOp.and IntKind.i64 ((r : Int) / 2 ^ ii) 1 = (eb : Int) := by
                  rw [lowBit_and, Heb.out]
                  unfold lowBit
                  have : ((r : Int) / 2 ^ ii) = ((r / 2 ^ ii : Nat) : Int) := by push_cast; rfl
                  rw [this]
                  omega
                have hmin : min ii 64 = ii := by omega
                have hkk0 : (0 : Int) ≤ (kk : Int) := by omega
                have hkk6 : (kk : Int) < 6 := by have := HKk.out; omega
                go_wp2_with (first | (at_builtin; refine wpList_append_row _ rfl _ _ 64 rfl 3 i0 (.int .i64 0) 1 8 Tryd.underlying64 hi hz0 hz1 hz2 rfl (by decide) _ _ _ rfl (HO.out.alloc _) ⟨wr.heap.size, 0, none⟩ 1 1 [.int .i64 (eb : Int)] rfl rfl (cell_one_new _ _ _) ?_ ?_ ?_ (by decide) ?_))
                · intro u hu; simp at hu; subst hu; rfl
                · unfold maxLen; omega
                · omega
                · intro g2 cap2 w2 hown2 hgrow hat hc2 hm2
                  have f2 := Fr.own hgrow
                  have HO2 : Hid (w2.ownsRow 0 3 1 (.slice (some ⟨g2, 0, none⟩) (xs.length + 1) cap2) (xs.length + 1) (intCells (xs ++ [eb]))) := by
                    rw [show intCells (xs ++ [eb]) = intCells xs ++ [.int .i64 (eb : Int)] by simp [intCells]]
                    exact hown2
                  have HF2 : Hid (Fr (fun _ => False) w w2) := HF.out.trans f2 (fun i hi e => by have := (HG.out i e).1; omega)
                  have HT2 : Hid (TAt w2 gF gW) := HT.out.kept f2 (fun e => (HG.out _ e).2.1 rfl) (fun e => (HG.out _ e).2.2 rfl)
                  have HG2 : Hid (w.heap.size ≤ g2 ∧ g2 ≠ gF ∧ g2 ≠ gW) := by
                    rcases hat with e | e
                    · exact HG.out g2 e
                    · have e2 : wr.heap.size + 1 ≤ g2 := by simpa using e
                      have := HF.out.size
                      have := seen_of_T HT.out
                      exact ⟨by omega, by omega, by omega⟩
                  have HU2 : Hid (xs ++ [eb] ++ hiBits r ii = FU) := by
                    show _ = _
                    rw [← HFU.out, Heb.out]
                    simp [hiBits]
                  clear hown2 hgrow hat f2 cF
                  go_wp2_with fail
                  refine ⟨⟨ii, xs ++ [eb], by congr 1, by omega, HU2.out, by simp only [List.length_append, List.length_singleton]; omega, by rw [List.length_append]; exact HO2.out, HF2.out, HT2.out, fun g hg => ?_⟩, by simp only [intOf]; omega⟩
                  simp [Value.ownBlock] at hg; subst hg; exact HG2.out

set_option maxRecDepth 100000 in
theorem bits5_none (w : World) (v : Int) :
    Calls Tryd.prog 48 #[.agg #[.int .i64 v, .bool true]] w fun e w' => ∃ g c, e = .returned (.slice (some ⟨g, 0, none⟩) 4 c) ∧ w'.ownsRow 0 3 1 (.slice (some ⟨g, 0, none⟩) 4 c) 4 (intCells [1, 0, 0, 0]) ∧ Fr (fun _ => False) w w' ∧ w.heap.size ≤ g := by
  have hb := heap_alloc_new (w.alloc (.cells #[.int .i64 v, .bool true] 46)) (.cells #[.int .i64 1, .int .i64 0, .int .i64 0, .int .i64 0] 3)
  rw [World.size_alloc] at hb
  go_enter Tryd.func48, Tryd.ntmps48
  go_wp2_with fail
  go_ret
  exact ⟨w.heap.size + 1, 4, rfl, ⟨rfl, Or.inr ⟨w.heap.size + 1, 4, _, rfl, Nat.zero_le _, hb, Nat.le_refl _, by unfold maxLen; omega, rfl, rfl⟩⟩, ((Fr.refl _ _).alloc _).alloc _, by omega⟩
theorem numBits_none (v : Int) : numBits v true = [1, 0, 0, 0] := by
  unfold numBits
  rw [show signOf v true = 1 by simp [signOf], show amountOf v true = 0 by simp [amountOf]]
  decide
theorem bits5_at (w : World) (v : Int) (nn : Bool) (hmay : mayP v nn = true) :
    Calls Tryd.prog 48 #[.agg #[.int .i64 v, .bool nn]] w fun e w' => ∃ g c, e = .returned (.slice (some ⟨g, 0, none⟩) (numBits v nn).length c) ∧ w'.ownsRow 0 3 1 (.slice (some ⟨g, 0, none⟩) (numBits v nn).length c) (numBits v nn).length (intCells (numBits v nn)) ∧ Fr (fun _ => False) w w' ∧ w.heap.size ≤ g := by
  cases nn
  · exact bits5_num w v hmay
  · rw [numBits_none]; exact bits5_none w v

end Go.Proofs.YtllhekkclhcdbaaDoor
