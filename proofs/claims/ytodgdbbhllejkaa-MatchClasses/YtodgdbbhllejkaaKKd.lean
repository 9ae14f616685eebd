/- 'Classes'. -/
import Derived.Test.YtodgdbbhllejkaaKKc
namespace Go.Proofs.Ytodgdbbhllejkaa
open Go.RowKit Go.Maps

/-- What 'Classes' tells, in memory: each bitmap's class, the classes' bitmaps. -/
structure Mat (w : World) (base : Nat) (cv rv : Value) (A : Nat → Bp) (C R : List Nat) (U : Nat → Value) : Prop where
  cls : w.ownsRow base 3 1 cv C.length (intCells C)
  reps : w.ownsRow base 48 3 rv R.length (repCells A U R R.length)
  words : ∀ c, c < R.length → w.ownsRow base 23 1 (U c) (A (R.getD c 0)).l.length (wordCells (A (R.getD c 0)).l)
  wsep : ∀ c c' g, c < R.length → c' < R.length → c ≠ c' → (U c).ownBlock = some g → (U c').ownBlock ≠ some g

theorem nrA_tol (t : Nat) (A : Nat → Bp) : nrA (tolW t) A = nrA t A := by
  funext r i
  exact nrB_tol t _ _
theorem two_cells {w : World} {b : Nat} {x y : Value} {tt : TypeId} (h : w.heap[b]? = some (.cells #[x, y] tt (0, 0))) : w.cell? ⟨b, 0, none⟩ = some x ∧ w.cell? ⟨b, 1, none⟩ = some y ∧ ∀ j, w.frozen? ⟨b, j, none⟩ = false := by
  refine ⟨?_, ?_, fun j => ?_⟩ <;> simp [World.cell?, World.frozen?, h]
theorem set2_cells {w : World} {o : Nat} {x y : Value} {tt : TypeId} (h : w.heap[o]? = some (.cells #[x, y] tt (0, 0))) (a b : Value) : ((w.setCell ⟨o, 0, none⟩ a).setCell ⟨o, 1, none⟩ b).heap[o]? = some (.cells #[a, b] tt (0, 0)) := by
  simp [World.setCell, Array.getElem?_modify, h]
theorem pad_set (C : List Nat) (n c : Nat) (h : C.length < n) : (C ++ List.replicate (n - C.length) 0).set C.length c = (C ++ [c]) ++ List.replicate (n - (C.length + 1)) 0 := by
  rw [List.set_append_right _ _ (Nat.le_refl _), Nat.sub_self, show n - C.length = (n - (C.length + 1)) + 1 by omega, List.replicate_succ, List.set_cons_zero, List.append_assoc]; rfl
theorem intCells_set (l : List Nat) (j x : Nat) : (intCells l).set j (Value.int .i64 (x : Int)) = intCells (l.set j x) := by simp [intCells, List.map_set]
theorem intCells_zero (n : Nat) : List.replicate n (Value.int .i64 0) = intCells (List.replicate n 0) := by simp [intCells]

set_option maxRecDepth 100000 in
set_option maxHeartbeats 2000000 in
theorem classes_badT (ao : Option Addr) (n cap T : Nat) (w : World) (ht : tolB T = false) :
    Calls Try.prog 14 #[.slice ao n cap, .float .f64 T] w fun e w' => e = .returned (.tuple #[.agg #[.slice none 0 0, .slice none 0 0], .int .i64 102]) ∧ Fr (fun _ => False) w w' := by
  have HT : Hid (∀ w', Calls Try.prog 30 #[.float .f64 T] w' fun e w'' => e = .returned (.tuple #[.float .f64 0, .int .i64 102]) ∧ w'' = w') := fun w' => by
    have := tolerance_any T w'
    unfold tolV at this
    rw [ht] at this
    exact this
  clear ht
  have HB : Hid ((w.alloc (.cells #[.slice none 0 0, .slice none 0 0] 33)).heap[w.heap.size]? = some (.cells #[.slice none 0 0, .slice none 0 0] 33 (0, 0))) := heap_alloc_new _ _
  have HF : Hid (Fr (fun _ => False) w (w.alloc (.cells #[.slice none 0 0, .slice none 0 0] 33))) := (Fr.refl _ _).alloc _
  obtain ⟨c0, c1, cf⟩ := two_cells HB.out
  have f0 := cf 0
  have f1 := cf 1
  clear cf
  go_enter Try.func14, Try.ntmps14
  go_wp2_with fail
  generalize w.alloc (.cells #[.slice none 0 0, .slice none 0 0] 33) = w0 at *
  refine (HT.out _).mono ?_
  rintro e w1 ⟨rfl, rfl⟩
  go_wp2_with fail
  refine bodyPost_ret (v := .tuple #[.agg #[.slice none 0 0, .slice none 0 0], .int .i64 102]) (by obtain ⟨m0, m1, _⟩ := two_cells (set2_cells HB.out (.slice none 0 0) (.slice none 0 0)); simp [results, Try.results14, go_sem, m0, m1]) rfl ?_
  exact ⟨rfl, (HF.out.setCell (p := ⟨w.heap.size, 0, none⟩) (fun h => absurd h (Nat.lt_irrefl _)) _).setCell (p := ⟨w.heap.size, 1, none⟩) (fun h => absurd h (Nat.lt_irrefl _)) _⟩

set_option maxRecDepth 100000 in
set_option maxHeartbeats 2000000 in
theorem classes_badF (ao : Option Addr) (n cap T : Nat) (A : Nat → Bp) (w : World) (hB : BpsAt w ao n A) (ht : tolB T = true) (hf : allB A n = false) :
    Calls Try.prog 14 #[.slice ao n cap, .float .f64 T] w fun e w' => e = .returned (.tuple #[.agg #[.slice none 0 0, .slice none 0 0], .int .i64 110]) ∧ Fr (fun _ => False) w w' := by
  have HT : Hid (∀ w', Calls Try.prog 30 #[.float .f64 T] w' fun e w'' => e = .returned (.tuple #[.float .f64 (tolW T), .int .i64 0]) ∧ w'' = w') := fun w' => by
    have := tolerance_any T w'
    unfold tolV at this
    rw [ht] at this
    exact this
  have HM : Hid (∀ w', Fr (fun _ => False) w w' → Calls Try.prog 31 #[.slice ao n cap] w' fun e w'' => e = .returned (.bool false) ∧ Fr (fun _ => False) w' w'') := fun w' f => by
    have := mayBe_any ao n cap A w' (hB.kept f)
    rwa [hf] at this
  clear ht hf hB
  have HB : Hid ((w.alloc (.cells #[.slice none 0 0, .slice none 0 0] 33)).heap[w.heap.size]? = some (.cells #[.slice none 0 0, .slice none 0 0] 33 (0, 0))) := heap_alloc_new _ _
  have HF : Hid (Fr (fun _ => False) w (w.alloc (.cells #[.slice none 0 0, .slice none 0 0] 33))) := (Fr.refl _ _).alloc _
  go_enter Try.func14, Try.ntmps14
  go_wp2_with fail
  generalize w.alloc (.cells #[.slice none 0 0, .slice none 0 0] 33) = w0 at *
  refine (HT.out _).mono ?_
  rintro e w1 ⟨rfl, rfl⟩
  go_wp2_with fail
  refine (HM.out _ HF.out).mono ?_
  rintro e w2 ⟨rfl, hf2⟩
  have HB2 : Hid (w2.heap[w.heap.size]? = some (.cells #[.slice none 0 0, .slice none 0 0] 33 (0, 0))) := blkOld hf2 HB.out
  have HF2 : Hid (Fr (fun _ => False) w w2) := HF.out.trans hf2 (fun _ _ h => h)
  clear hf2
  obtain ⟨c0, c1, cf⟩ := two_cells HB2.out
  have f0 := cf 0
  have f1 := cf 1
  clear cf
  go_wp2_with fail
  refine bodyPost_ret (v := .tuple #[.agg #[.slice none 0 0, .slice none 0 0], .int .i64 110]) (by obtain ⟨m0, m1, _⟩ := two_cells (set2_cells HB2.out (.slice none 0 0) (.slice none 0 0)); simp [results, Try.results14, go_sem, m0, m1]) rfl ?_
  exact ⟨rfl, (HF2.out.setCell (p := ⟨w.heap.size, 0, none⟩) (fun h => absurd h (Nat.lt_irrefl _)) _).setCell (p := ⟨w.heap.size, 1, none⟩) (fun h => absurd h (Nat.lt_irrefl _)) _⟩

theorem cl_zero {w : World} {base bc bm t : Nat} {A : Nat → Bp} (hb : w.heap[bc]? = some (.cells #[.float .f64 t, .slice none 0 0, .map (some bm)] 60 (0, 0))) (hm : w.ownsMap Try.prog 77 heldR bm 0 (.map [])) :
    Cl w base bc bm t A [] (.slice none 0 0) (fun _ => .slice none 0 0) 0 (.map []) (fun _ _ => .slice none 0 0) :=
  ⟨⟨hb, World.ownsRow_nil _ _ _ _, fun c hc => absurd hc (Nat.not_lt_zero _), fun c c' g hc => absurd hc (Nat.not_lt_zero _)⟩, ⟨hm, fun x y _ _ => rfl, fun x y => World.ownsRow_nil _ _ _ _, fun x y x' y' g _ h => by simp [Value.ownBlock] at h⟩⟩

set_option maxRecDepth 100000 in
set_option maxHeartbeats 4000000 in
theorem classes_ok (ao : Option Addr) (n cap T : Nat) (A : Nat → Bp) (w : World) (hB : BpsAt w ao n A) (hn : n ≤ 1048576) (ht : tolB T = true) (hf : allB A n = true) (hlen : (clR (nrA T A) n).length ≤ 4096) :
    Calls Try.prog 14 #[.slice ao n cap, .float .f64 T] w fun e w' => ∃ cv rv U, e = .returned (.tuple #[.agg #[cv, rv], .int .i64 0]) ∧ Mat w' w.heap.size cv rv A (clC (nrA T A) n) (clR (nrA T A) n) U ∧ Fr (fun _ => False) w w' := by
  obtain ⟨j0, hj, hy0, hy1, hy2⟩ := info_parts Try.infoInt
  have HT : Hid (∀ w', Calls Try.prog 30 #[.float .f64 T] w' fun e w'' => e = .returned (.tuple #[.float .f64 (tolW T), .int .i64 0]) ∧ w'' = w') := fun w' => by
    have := tolerance_any T w'
    unfold tolV at this
    rw [ht] at this
    exact this
  have HM : Hid (∀ w', Fr (fun _ => False) w w' → Calls Try.prog 31 #[.slice ao n cap] w' fun e w'' => e = .returned (.bool true) ∧ Fr (fun _ => False) w' w'') := fun w' f => by
    have := mayBe_any ao n cap A w' (hB.kept f)
    rwa [hf] at this
  have HG : Hid (∀ j, j < n → Good (A j)) := fun j hj => (hB.ok j hj).good (of_decide_eq_true hf j hj)
  have HBP : Hid (∀ w', Fr (fun _ => False) w w' → BpsAt w' ao n A) := fun w' f => hB.kept f
  have HLN : Hid ((clR (nrA T A) n).length ≤ 4096) := hlen
  clear ht hf hB hlen
  have HB : Hid ((w.alloc (.cells #[.slice none 0 0, .slice none 0 0] 33)).heap[w.heap.size]? = some (.cells #[.slice none 0 0, .slice none 0 0] 33 (0, 0))) := heap_alloc_new _ _
  have HF : Hid (Fr (fun _ => False) w (w.alloc (.cells #[.slice none 0 0, .slice none 0 0] 33))) := (Fr.refl _ _).alloc _
  have hmm := @run_makeMap Try.prog
  have hsf : ∀ (w : World) (a : Addr) (x : Nat) m, (store a (.float .f64 x) m).run Try.prog w = stored Try.prog w a (.float .f64 x) m := fun w a x m => run_store Try.prog w a _ m rfl
  go_enter Try.func14, Try.ntmps14
  go_wp2_with fail
  generalize w.alloc (.cells #[.slice none 0 0, .slice none 0 0] 33) = w0 at *
  refine (HT.out _).mono ?_
  rintro e w1 ⟨rfl, rfl⟩
  generalize hT' : tolW T = T' at *
  have HTT : Hid (tolW T = T') := hT'
  clear hT'
  go_wp2_with fail
  refine (HM.out _ HF.out).mono ?_
  rintro e w2 ⟨rfl, hf2⟩
  have HB2 : Hid (w2.heap[w.heap.size]? = some (.cells #[.slice none 0 0, .slice none 0 0] 33 (0, 0))) := blkOld hf2 HB.out
  have HF2 : Hid (Fr (fun _ => False) w w2) := HF.out.trans hf2 (fun _ _ h => h)
  clear hf2 HF HB
  go_wp2_with (first | (at_make; refine wpList_make_full _ rfl _ _ 31 rfl 0 3 j0 (.int .i64 0) 1 Try.underlying31 hj hy0 hy1 .i64 .i64 _ _ n rfl rfl ?_ ?_ ?_ ?_ ?_ ?_))
  · rfl
  · rfl
  · rw [hy2]; omega
  · unfold maxLen; omega
  · omega
  · intro w3 hown hgrow
    have hrb : w.heap.size < w2.heap.size := lt_of_block HB2.out
    have HF23 : Hid (Fr (fun _ => False) w2 w3) := (((Fr.refl (fun _ => False) w2).alloc _).alloc _).grown hgrow (fun _ e _ => by cases e)
    have HBC : Hid (w3.heap[w2.heap.size + 1]? = some (.cells #[.float .f64 T', .slice none 0 0, .map (some w2.heap.size)] 60 (0, 0))) := by
      have h1 := heap_alloc_new (w2.alloc (.map #[] 0)) (.cells #[.float .f64 T', .slice none 0 0, .map (some w2.heap.size)] 60)
      rw [World.size_alloc] at h1
      show _ = _
      rw [hgrow.block _ (by simp) (by simp)]
      exact h1
    have HMP : Hid (w3.ownsMap Try.prog 77 heldR w2.heap.size 0 (.map [])) := ((World.ownsMap_made w2 _ _ _).alloc _).kept hgrow (by simp)
    have HOW : Hid (w3.ownsRow 0 3 1 (.slice (some ⟨w2.heap.size + 1 + 1, 0, none⟩) n n) n (intCells ([] ++ List.replicate (n - 0) 0))) := by
      rw [toList_madeCells_one, intCells_zero] at hown
      rw [List.nil_append, Nat.sub_zero]
      exact hown
    have hs3 : w2.heap.size + 1 + 1 < w3.heap.size := (hown.lt _ rfl).2
    have HB3 : Hid (w3.heap[w.heap.size]? = some (.cells #[.slice none 0 0, .slice none 0 0] 33 (0, 0))) := blkOld HF23.out HB2.out
    have HF3 : Hid (Fr (fun _ => False) w w3) := HF2.out.trans HF23.out (fun _ _ h => h)
    have HCL0 : Hid (Cl w3 w3.heap.size (w2.heap.size + 1) w2.heap.size T' A [] (.slice none 0 0) (fun _ => .slice none 0 0) 0 (.map []) (fun _ _ => .slice none 0 0)) := cl_zero HBC.out HMP.out
    clear hown hgrow HBC HMP HF23 HB2 HF2 HM hmm hsf
    have hsw := HF3.out.size
    generalize w2.heap.size = bm at *
    generalize hbc : bm + 1 = bc at *
    generalize hgc : bc + 1 = gc at *
    generalize hba : w3.heap.size = base at *
    have HLE : Hid (w.heap.size < bm ∧ bm < bc ∧ bc < gc ∧ gc < base) := by show _ ∧ _; omega
    have HBA : Hid (w3.heap.size = base) := hba
    clear hbc hgc hba
    have HTOL : Hid (nrA T' A = nrA T A) := by show _ = _; rw [← HTT.out]; exact nrA_tol T A
    go_wp2_with fail
    go_loopg [6, 9, 10, 31] n (fun q er _ _ k wr => ∃ (i : Nat) (rv : Value) (U : Nat → Value) (D : DataW Value) (V : Nat → Nat → Value), i + q = n ∧ k = .int .i64 (i : Int) ∧ er = .int .i64 0 ∧ Cl wr base bc bm T' A (clR (nrA T A) i) rv U (clR (nrA T A) i).length D V ∧ wr.ownsRow 0 3 1 (.slice (some ⟨gc, 0, none⟩) n n) n (intCells (clC (nrA T A) i ++ List.replicate (n - i) 0)) ∧ wr.heap[w.heap.size]? = some (.cells #[.slice none 0 0, .slice none 0 0] 33 (0, 0)) ∧ base ≤ wr.heap.size ∧ Fr (fun _ => False) w wr)
    case atStart => exact ⟨0, _, _, _, _, by omega, rfl, rfl, HCL0.out, HOW.out, HB3.out, Nat.le_of_eq HBA.out.symm, HF3.out⟩
    case round =>
      obtain ⟨i, rv, U, D, V, hjq, rfl, rfl, hcl, how, hrbk, hbw, hfr⟩ := hrel
      have HCL : Hid (Cl wr base bc bm T' A (clR (nrA T A) i) rv U (clR (nrA T A) i).length D V) := hcl
      have HO : Hid (wr.ownsRow 0 3 1 (.slice (some ⟨gc, 0, none⟩) n n) n (intCells (clC (nrA T A) i ++ List.replicate (n - i) 0))) := how
      have HRB : Hid (wr.heap[w.heap.size]? = some (.cells #[.slice none 0 0, .slice none 0 0] 33 (0, 0))) := hrbk
      have HFr : Hid (Fr (fun _ => False) w wr) := hfr
      clear hcl how hrbk hfr HCL0 HOW HB3 HF3
      by_cases h1 : i < n
      · have d1 : decide (i < n) = true := decide_eq_true h1
        obtain ⟨b, off, hao, hcc⟩ := (HBP.out wr HFr.out).cells (by omega)
        obtain ⟨k0, k1, k2⟩ := hcc i h1
        subst hao
        obtain ⟨W, H, e1, e2, g1, g2, g3, -, -⟩ := (HG.out i h1).vb
        obtain ⟨s1, s2, -⟩ := size_facts g1 g2 g3
        have HSE := ((HBP.out wr HFr.out).ok i h1).hv
        obtain ⟨av, cv, hv, -⟩ := HSE
        have HJ : Hid (∀ w', Fr (fun _ => False) wr w' → Calls Try.prog 32 #[.pointer (some ⟨bc, 0, none⟩), .agg #[.int .i64 (W : Int), .int .i64 (H : Int), (A i).v]] w' fun e w'' => ∃ rv' U' m' D' V' R' c, e = .returned (.tuple #[.int .i64 ((c : Nat) : Int), .int .i64 0]) ∧ Cl w'' base bc bm T' A R' rv' U' m' D' V' ∧ Fr (fun k => k = bc ∨ k = bm ∨ base ≤ k) w' w'' ∧ R' = clR (nrA T A) (i + 1) ∧ clC (nrA T A) (i + 1) = clC (nrA T A) i ++ [c] ∧ m' = R'.length) := fun w' f => by
          have hR : (clR (nrA T A) i).length ≤ 4096 := Nat.le_trans (clR_mono _ (by omega)) HLN.out
          have hnext := clR_mono (nrA T A) (show i + 1 ≤ n by omega)
          refine (join_any i W H (A i).v w' (HCL.out.kept f (fun h => h) (fun h => h) (fun _ _ h => h)) hR ?_ s1 s2 (((HBP.out wr HFr.out).ok i h1).hv.kept f) e1 e2 (fun r hr => HG.out r (by have := clR_lt _ _ r hr; omega)) (HG.out i h1) (Nat.le_trans hbw f.size) hR).mono ?_
          · rw [HTOL.out]
            cases hfn : fnd (nrA T A) (clR (nrA T A) i) i with
            | some c => exact Or.inr (by simp)
            | none =>
              refine Or.inl ?_
              rw [clR_succ_none hfn, List.length_append, List.length_singleton] at hnext
              have := HLN.out
              omega
          · rintro e w'' ⟨rv', U', m', D', V', R', c, he, hcl, hfr, hd⟩
            rw [HTOL.out] at hd
            refine ⟨rv', U', m', D', V', R', c, he, hcl, hfr, ?_⟩
            rcases hd with ⟨hs, rfl, rfl⟩ | ⟨hs, rfl, rfl, rfl⟩
            · exact ⟨(clR_succ_some hs).symm, clC_succ_some hs, rfl⟩
            · exact ⟨(clR_succ_none hs).symm, clC_succ_none hs, by simp⟩
        rw [hv] at k2 HJ
        rw [e1] at k0
        rw [e2] at k1
        clear hv e1 e2 hcc
        have HPS : Hid (∀ c, (intCells (clC (nrA T A) i ++ List.replicate (n - i) 0)).set i (.int .i64 ((c : Nat) : Int)) = intCells ((clC (nrA T A) i ++ [c]) ++ List.replicate (n - (i + 1)) 0)) := fun c => by
          have := pad_set (clC (nrA T A) i) n c (by rw [length_clC]; exact h1)
          rw [length_clC] at this
          rw [intCells_set, this]
        have hlc := length_clC (nrA T A) i
        go_wp2_with fail
        refine (HJ.out _ ((Fr.refl _ _).alloc _)).mono ?_
        rintro e w5 ⟨rv', U', m', D', V', R', c, rfl, hcl5, hf5, hR', hC', rfl⟩
        subst hR'
        have HF5 : Hid (Fr (fun k => k = bc ∨ k = bm ∨ base ≤ k) wr w5) := (((Fr.refl (fun _ => False) wr).alloc _).mono (fun _ _ h => h.elim)).trans hf5 (fun _ _ h => h)
        have HO5 : Hid (w5.ownsRow 0 3 1 (.slice (some ⟨gc, 0, none⟩) n n) n (intCells (clC (nrA T A) i ++ List.replicate (n - i) 0))) := row_kept HO.out HF5.out (fun k hk h => by
          simp [Value.ownBlock] at hk
          have := HLE.out
          omega)
        have HFw : Hid (Fr (fun _ => False) w (w5.setCell ⟨gc, i, none⟩ (.int .i64 ((c : Nat) : Int)))) := (HFr.out.trans HF5.out (fun k hk h => by have := HLE.out; have := hsw; omega)).setCell (p := ⟨gc, i, none⟩) (fun h => by have := HLE.out; have : gc < w.heap.size := h; omega) _
        have HFG : Hid (Fr (fun k => k = gc) w5 (w5.setCell ⟨gc, i, none⟩ (.int .i64 ((c : Nat) : Int)))) := (Fr.refl (fun k => k = gc) w5).setCell (p := ⟨gc, i, none⟩) (fun _ => rfl) _
        have HCL6 : Hid (Cl (w5.setCell ⟨gc, i, none⟩ (.int .i64 ((c : Nat) : Int))) base bc bm T' A (clR (nrA T A) (i + 1)) rv' U' (clR (nrA T A) (i + 1)).length D' V') := hcl5.kept HFG.out (by have := HLE.out; omega) (by have := HLE.out; omega) (fun k hk h => by have := HLE.out; omega)
        have HO6 : Hid ((w5.setCell ⟨gc, i, none⟩ (.int .i64 ((c : Nat) : Int))).ownsRow 0 3 1 (.slice (some ⟨gc, 0, none⟩) n n) n (intCells (clC (nrA T A) (i + 1) ++ List.replicate (n - (i + 1)) 0))) := by
          have := (World.ownsRow.stored HO5.out i (.int .i64 ((c : Nat) : Int))).1
          rw [HPS.out c, ← hC'] at this
          exact this
        have HRB6 : Hid ((w5.setCell ⟨gc, i, none⟩ (.int .i64 ((c : Nat) : Int))).heap[w.heap.size]? = some (.cells #[.slice none 0 0, .slice none 0 0] 33 (0, 0))) := by
          show _ = _
          rw [HFG.out.block _ (by have := HF5.out.size; have := lt_of_block HRB.out; omega) (by have := HLE.out; omega), HF5.out.block _ (lt_of_block HRB.out) (fun h => by have := HLE.out; have := hsw; omega)]
          exact HRB.out
        have hb6 : base ≤ (w5.setCell ⟨gc, i, none⟩ (.int .i64 ((c : Nat) : Int))).heap.size := by
          have := HFG.out.size
          have := HF5.out.size
          omega
        have c6 : w5.cell? ⟨gc, i, none⟩ = some (.int .i64 0) := by
          rw [World.ownsRow.cellAt HO5.out i (by omega), intCells_get _ (by rw [List.length_append, hlc, List.length_replicate]; omega), List.getD_eq_getElem?_getD, List.getElem?_append_right (by omega), hlc, Nat.sub_self, show n - i = (n - (i + 1)) + 1 by omega]
          rfl
        have f6 : w5.frozen? ⟨gc, i, none⟩ = false := World.ownsRow.frozenAt HO5.out i
        clear hcl5 hf5 hC' hlc
        go_wp2_with fail
        go_roundg (n - (i + 1))
        case measure => omega
        case rel => exact ⟨i + 1, _, _, _, _, by omega, by go_num, rfl, HCL6.out, HO6.out, HRB6.out, hb6, HFw.out⟩
      · have d1 : decide (i < n) = false := decide_eq_false h1
        have hi : i = n := by omega
        subst hi
        obtain ⟨ar, cr, hrv⟩ := own_slice HCL.out.r.reps
        subst hrv
        have HMA : Hid (∀ w', Fr (fun k => k = w.heap.size) wr w' → Mat w' w.heap.size (.slice (some ⟨gc, 0, none⟩) i i) (.slice ar (clR (nrA T A) i).length cr) A (clC (nrA T A) i) (clR (nrA T A) i) U) := fun w' f => by
          have hq := HLE.out
          refine ⟨?_, row_kept (ownsRow_base HCL.out.r.reps (fun k hk => ?_)) f (fun k hk h => ?_), fun c hc => row_kept (ownsRow_base (HCL.out.r.words c hc) (fun k hk => ?_)) f (fun k hk h => ?_), HCL.out.r.wsep⟩
          · have := HO.out
            rw [Nat.sub_self, List.replicate_zero, List.append_nil] at this
            rw [length_clC]
            exact row_kept (ownsRow_base this (fun k hk => by simp [Value.ownBlock] at hk; omega)) f (fun k hk h => by simp [Value.ownBlock] at hk; omega)
          · have := (HCL.out.r.reps.lt k hk).1; omega
          · have := (HCL.out.r.reps.lt k hk).1; omega
          · have := ((HCL.out.r.words c hc).lt k hk).1; omega
          · have := ((HCL.out.r.words c hc).lt k hk).1; omega
        obtain ⟨a1, a2, a3⟩ := HCL.out.cells
        obtain ⟨c0, c1, cf⟩ := two_cells HRB.out
        have f0 := cf 0
        have f1 := cf 1
        clear cf
        go_wp2_with fail
        have HFz : Hid (Fr (fun k => k = w.heap.size) wr ((wr.setCell ⟨w.heap.size, 0, none⟩ (.slice (some ⟨gc, 0, none⟩) i i)).setCell ⟨w.heap.size, 1, none⟩ (.slice ar (clR (nrA T A) i).length cr))) := ((Fr.refl (fun k => k = w.heap.size) wr).setCell (p := ⟨w.heap.size, 0, none⟩) (fun _ => rfl) _).setCell (p := ⟨w.heap.size, 1, none⟩) (fun _ => rfl) _
        refine bodyPost_ret (v := .tuple #[.agg #[.slice (some ⟨gc, 0, none⟩) i i, .slice ar (clR (nrA T A) i).length cr], .int .i64 0]) (by obtain ⟨m0, m1, _⟩ := two_cells (set2_cells HRB.out (.slice (some ⟨gc, 0, none⟩) i i) (.slice ar (clR (nrA T A) i).length cr)); simp [results, Try.results14, go_sem, m0, m1]) rfl ?_
        exact ⟨_, _, U, rfl, HMA.out _ HFz.out, HFr.out.trans HFz.out (fun k hk h => by omega)⟩
end Go.Proofs.Ytodgdbbhllejkaa
