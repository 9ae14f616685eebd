/- More classes than may be. -/
import Derived.Test.YtodgdbbhllejkabKd
namespace Go.Proofs.Ytodgdbbhllejkab
open Go.RowKit Go.Maps

variable {w w' : World} {base bc bm t m : Nat} {A : Nat → Bp} {R : List Nat} {rv : Value} {U : Nat → Value} {D : DataW Value} {V : Nat → Nat → Value}

set_option maxRecDepth 100000 in
set_option maxHeartbeats 2000000 in
theorem begin_full (x y : Nat) (vb : Value) (w : World) (h : Cl w base bc bm t A R rv U m D V) (hR : R.length = 4096) :
    Calls Try.prog 17 #[.pointer (some ⟨bc, 0, none⟩), .agg #[.int .i64 (x : Int), .int .i64 (y : Int), vb]] w fun e w' => e = .returned (.tuple #[.int .i64 0, .int .i64 120]) ∧ Fr (fun _ => False) w w' := by
  have HCL : Hid (∀ w', Fr (fun _ => False) w w' → Cl w' base bc bm t A R rv U m D V) := fun w' f => h.kept f (fun h => h) (fun h => h) (fun _ _ h => h)
  obtain ⟨ar, cr, hrv⟩ := own_slice h.r.reps
  rw [hR] at hrv
  subst hrv
  have HF : Hid (Fr (fun _ => False) w (w.alloc (.cells #[.int .i64 (x : Int), .int .i64 (y : Int), vb] 27))) := (Fr.refl _ _).alloc _
  obtain ⟨a1, a2, a3⟩ := (HCL.out _ HF.out).cells
  clear h hR
  go_enter Try.func17, Try.ntmps17
  go_wp2_with fail
  generalize w.alloc (.cells #[.int .i64 (x : Int), .int .i64 (y : Int), vb] 27) = w0 at *
  go_wp2_with fail
  go_ret2
  exact ⟨rfl, HF.out⟩

set_option maxRecDepth 100000 in
set_option maxHeartbeats 4000000 in
theorem join_full (i x y : Nat) (vb : Value) (w : World) (h : Cl w base bc bm t A R rv U m D V) (hR : R.length = 4096) (hno : fnd (nrA t A) R i = none) (hx : x ≤ 1048576) (hy : y ≤ 1048576) (sb : Seen w vb (A i).l)
    (hAx : (A i).x = x) (hAy : (A i).y = y) (hg : ∀ r ∈ R, Good (A r)) (hgi : Good (A i)) :
    Calls Try.prog 9 #[.pointer (some ⟨bc, 0, none⟩), .agg #[.int .i64 (x : Int), .int .i64 (y : Int), vb]] w fun e w' => e = .returned (.tuple #[.int .i64 0, .int .i64 120]) ∧ Fr (fun _ => False) w w' := by
  have HFD : Hid (fnd (nrA t A) R i = (ofSz (szB A) R x y).find? fun c => nrA t A (R.getD c 0) i) := fnd_ofSz t A R i x y hAx hAy
  have HCL : Hid (∀ w', Fr (fun _ => False) w w' → Cl w' base bc bm t A R rv U m D V) := fun w' f => h.kept f (fun h => h) (fun h => h) (fun _ _ h => h)
  have HSB : Hid (∀ w', Fr (fun _ => False) w w' → Seen w' vb (A i).l) := fun w' f => sb.kept f
  have HBG : Hid (∀ w', Fr (fun _ => False) w w' → Calls Try.prog 17 #[.pointer (some ⟨bc, 0, none⟩), .agg #[.int .i64 (x : Int), .int .i64 (y : Int), vb]] w' fun e w'' => e = .returned (.tuple #[.int .i64 0, .int .i64 120]) ∧ Fr (fun _ => False) w' w'') := fun w' f =>
    begin_full x y vb w' (HCL.out w' f) hR
  have HNE : Hid (∀ w', Fr (fun _ => False) w w' → ∀ k, k < (ofSz (szB A) R x y).length → Calls Try.prog 16 #[.pointer (some ⟨bc, 0, none⟩), .int .i64 (((ofSz (szB A) R x y).getD k 0 : Nat) : Int), .agg #[.int .i64 (x : Int), .int .i64 (y : Int), vb]] w' fun e w'' => e = .returned (.bool (nrA t A (R.getD ((ofSz (szB A) R x y).getD k 0) 0) i)) ∧ Fr (fun _ => False) w' w'') := fun w' f k hk => by
    obtain ⟨q1, q2⟩ := mem_ofSz hk
    have q2 := szB_iff q2
    have hgc : Good (A (R.getD ((ofSz (szB A) R x y).getD k 0) 0)) := hg _ (by rw [List.getD_eq_getElem?_getD, List.getElem?_eq_getElem q1]; exact List.getElem_mem q1)
    have := isNear_any ((ofSz (szB A) R x y).getD k 0) (A i) vb w' (HCL.out w' f) q1 (Nat.le_of_eq hR) hgc hgi (HSB.out w' f) (by rw [q2.1, hAx]) (by rw [q2.2, hAy])
    rw [hAx, hAy] at this
    exact this
  have HLK : Hid (∀ W, Fr (fun _ => False) w W → (Instr.lookup 40 (.map (some bm)) (.agg #[.int .i64 (x : Int), .int .i64 (y : Int)]) false).run Try.prog W = .ok (V x y) W) := fun W f => by
    have hc := (HCL.out W f).m
    obtain ⟨v', ps, hrun, hRv⟩ := hc.map.lookup Try.keyed53 Try.underlying40 (Try.zero28 W) (zd := .held (.slice none 0 0)) (zp := []) rfl (keyS x y hx hy)
    rw [hc.val x y hx hy] at hRv
    simp only [heldR, Option.some.injEq, Prod.mk.injEq, DataW.held.injEq] at hRv
    obtain ⟨rfl, _⟩ := hRv
    exact hrun
  have hln := length_ofSz (szB A) R x y
  have HRW : Hid (∀ w', Fr (fun _ => False) w w' → w'.ownsRow base 3 1 (V x y) (ofSz (szB A) R x y).length (intCells (ofSz (szB A) R x y))) := fun w' f => (HCL.out w' f).m.row x y
  obtain ⟨av, cv, hVV⟩ := own_slice (h.m.row x y)
  rw [hVV] at HLK HRW
  have HFU : Hid (fnd (nrA t A) R i = none) := hno
  clear hno
  have HRC : Hid (∀ w', Fr (fun _ => False) w w' → ∀ k, k < (ofSz (szB A) R x y).length → ∃ gv, av = some ⟨gv, 0, none⟩ ∧ w'.cell? ⟨gv, k, none⟩ = some (.int .i64 (((ofSz (szB A) R x y).getD k 0 : Nat) : Int))) := fun w' f k hk => by
    obtain ⟨gv, cv', e, _⟩ := row_form (HRW.out w' f) (by omega)
    cases e
    exact ⟨gv, rfl, ((HRW.out w' f).cellAt k (by omega)).trans (intCells_get _ hk)⟩
  have HS : Hid (∀ w' : World, Fr (fun _ => False) (w.alloc (.cells #[.int .i64 (x : Int), .int .i64 (y : Int), vb] 27)) w' → (w'.cell? ⟨w.heap.size, 0, none⟩ = some (.int .i64 x) ∧ w'.cell? ⟨w.heap.size, 1, none⟩ = some (.int .i64 y) ∧ w'.cell? ⟨w.heap.size, 2, none⟩ = some vb) ∧ w'.cell? ⟨bc, 2, none⟩ = some (.map (some bm))) := fun w' f => ⟨cells3_of f, (HCL.out w' (((Fr.refl _ _).alloc _).trans f (fun _ _ h => h))).cells.2.2⟩
  have HA : Hid (Fr (fun _ => False) w (w.alloc (.cells #[.int .i64 (x : Int), .int .i64 (y : Int), vb] 27))) := (Fr.refl _ _).alloc _
  clear h sb hg hgi hAx hAy hVV
  generalize hF : ofSz (szB A) R x y = F at *
  generalize hnF : F.length = nF at *
  have HNF : Hid (F.length = nF) := hnF
  clear hnF hF
  obtain ⟨⟨c0, c1, c2⟩, d2⟩ := HS.out _ (Fr.refl _ _)
  go_enter Try.func9, Try.ntmps9
  go_wp2_with fail
  generalize w.alloc (.cells #[.int .i64 (x : Int), .int .i64 (y : Int), vb] 27) = w0 at *
  go_region_held3 (fun w' => (w'.cell? ⟨w.heap.size, 0, none⟩ = some (.int .i64 x) ∧ w'.cell? ⟨w.heap.size, 1, none⟩ = some (.int .i64 y) ∧ w'.cell? ⟨w.heap.size, 2, none⟩ = some vb) ∧ w'.cell? ⟨bc, 2, none⟩ = some (.map (some bm))) (first | exact HS.out _ (Fr.refl _ _).drew | exact HS.out _ hf3'.out) (first | (go_at_call 15; refine (sizeOf_any (x : Int) (y : Int) vb _).mono ?_; rintro e w3 ⟨rfl, hf3⟩; (have hf3' : Hid (Fr (fun _ => False) w0 w3) := (Fr.refl (fun _ => False) w0).drew.trans hf3 (fun _ _ h => h)); (have hlk := HLK.out w3 (HA.out.trans hf3'.out (fun _ _ h => h))); clear hf3))
  clear c0 c1 c2 d2 hlk
  go_wp2_with fail
  go_loopg [7, 16] nF (fun q _ k wr => ∃ (j : Nat), j + q = nF ∧ k = .int .i64 (j : Int) ∧ Hid (∀ k, k < j → nrA t A (R.getD (F.getD k 0) 0) i = false) ∧ Fr (fun _ => False) w0 wr)
  case atStart => exact ⟨0, by omega, rfl, fun _ h => absurd h (Nat.not_lt_zero _), hf3'.out⟩
  case round =>
    obtain ⟨j, hjq, rfl, HNO, hfr⟩ := hrel
    have HFr : Hid (Fr (fun _ => False) w0 wr) := hfr
    have HFw : Hid (Fr (fun _ => False) w wr) := HA.out.trans hfr (fun _ _ h => h)
    clear hfr
    obtain ⟨⟨c0, c1, c2⟩, d2⟩ := HS.out _ HFr.out
    by_cases h1 : j < nF
    · have d1 : decide (j < nF) = true := decide_eq_true h1
      obtain ⟨gv, rfl, k0⟩ := HRC.out wr HFw.out j h1
      have HN := HNE.out wr HFw.out j h1
      generalize hcj : F.getD j 0 = cj at *
      have HCJ : Hid (F.getD j 0 = cj) := hcj
      clear hcj
      cases hnr : nrA t A (R.getD cj 0) i
      · rw [hnr] at HN
        have HN' : Hid _ := HN
        have HNO2 : Hid (∀ k, k < j + 1 → nrA t A (R.getD (F.getD k 0) 0) i = false) := fun k hk => by
          by_cases e : k = j
          · subst e; rw [HCJ.out]; exact hnr
          · exact HNO.out k (by omega)
        clear HN hnr
        go_wp2_with fail
        refine Calls.mono HN'.out ?_
        rintro e w4 ⟨rfl, hf4⟩
        have HF4 : Hid (Fr (fun _ => False) w0 w4) := HFr.out.trans hf4 (fun _ _ h => h)
        clear hf4
        go_wp2_with fail
        go_roundg (nF - (j + 1))
        case measure => omega
        case rel => exact ⟨j + 1, by omega, by go_num, HNO2.out, HF4.out⟩
      · rw [hnr] at HN
        have HN' : Hid _ := HN
        have HSM : Hid (fnd (nrA t A) R i = some cj) := by
          show _ = _
          rw [HFD.out, find_at (k := j) (by rw [HNF.out]; exact h1) (fun k hk => HNO.out k hk) (by rw [HCJ.out]; exact hnr), HCJ.out]
        exact absurd (HSM.out.symm.trans HFU.out) (by simp)
    · have d1 : decide (j < nF) = false := decide_eq_false h1
      have HB := HBG.out wr HFw.out
      have HB' : Hid _ := HB
      clear HB
      go_wp2_with fail
      refine Calls.mono HB'.out ?_
      rintro e w4 ⟨rfl, hf4⟩
      have HF4 : Hid (Fr (fun _ => False) w w4) := HFw.out.trans hf4 (fun _ _ h => h)
      clear hf4
      go_wp2_with fail
      go_ret2
      exact ⟨rfl, HF4.out⟩

set_option maxRecDepth 100000 in
set_option maxHeartbeats 4000000 in
theorem classes_full (ao : Option Addr) (n n0 cap T : Nat) (A : Nat → Bp) (w : World) (hB : BpsAt w ao n A) (hn : n ≤ 1048576) (ht : tolB T = true) (hf : allB A n = true) (hn0 : n = n0 + 1) (hlen : (clR (nrA T A) n0).length = 4096) (hno : fnd (nrA T A) (clR (nrA T A) n0) n0 = none) :
    Calls Try.prog 4 #[.slice ao n cap, .float .f64 T] w fun e w' => e = .returned (.tuple #[.agg #[.slice none 0 0, .slice none 0 0], .int .i64 120]) ∧ Fr (fun _ => False) w w' := by
  obtain ⟨j0, hj, hy0, hy1, hy2⟩ := info_parts Try.infoInt
  have HT : Hid (∀ w', Calls Try.prog 7 #[.float .f64 T] w' fun e w'' => e = .returned (.tuple #[.float .f64 (tolW T), .int .i64 0]) ∧ w'' = w') := fun w' => by
    have := tolerance_any T w'
    unfold tolV at this
    rw [ht] at this
    exact this
  have HM : Hid (∀ w', Fr (fun _ => False) w w' → Calls Try.prog 8 #[.slice ao n cap] w' fun e w'' => e = .returned (.bool true) ∧ Fr (fun _ => False) w' w'') := fun w' f => by
    have := mayBe_any ao n cap A w' (hB.kept f)
    rwa [hf] at this
  have HG : Hid (∀ j, j < n → Good (A j)) := fun j hj => (hB.ok j hj).good (of_decide_eq_true hf j hj)
  have HBP : Hid (∀ w', Fr (fun _ => False) w w' → BpsAt w' ao n A) := fun w' f => hB.kept f
  have HLN : Hid ((clR (nrA T A) n0).length = 4096) := hlen
  have HNO : Hid (fnd (nrA T A) (clR (nrA T A) n0) n0 = none) := hno
  have HN0 : Hid (n = n0 + 1) := hn0
  clear ht hf hB hlen hno hn0
  have HB : Hid ((w.alloc (.cells #[.slice none 0 0, .slice none 0 0] 30)).heap[w.heap.size]? = some (.cells #[.slice none 0 0, .slice none 0 0] 30 (0, 0))) := heap_alloc_new _ _
  have HF : Hid (Fr (fun _ => False) w (w.alloc (.cells #[.slice none 0 0, .slice none 0 0] 30))) := (Fr.refl _ _).alloc _
  have hmm := @run_makeMap Try.prog
  have hsf : ∀ (w : World) (a : Addr) (x : Nat) m, (store a (.float .f64 x) m).run Try.prog w = stored Try.prog w a (.float .f64 x) m := fun w a x m => run_store Try.prog w a _ m rfl
  go_enter Try.func4, Try.ntmps4
  go_wp2_with fail
  generalize w.alloc (.cells #[.slice none 0 0, .slice none 0 0] 30) = w0 at *
  refine (HT.out _).mono ?_
  rintro e w1 ⟨rfl, rfl⟩
  generalize hT' : tolW T = T' at *
  have HTT : Hid (tolW T = T') := hT'
  clear hT'
  go_wp2_with fail
  refine (HM.out _ HF.out).mono ?_
  rintro e w2 ⟨rfl, hf2⟩
  have HB2 : Hid (w2.heap[w.heap.size]? = some (.cells #[.slice none 0 0, .slice none 0 0] 30 (0, 0))) := blkOld hf2 HB.out
  have HF2 : Hid (Fr (fun _ => False) w w2) := HF.out.trans hf2 (fun _ _ h => h)
  clear hf2 HF HB
  go_wp2_with (first | (at_make; refine wpList_make_full _ rfl _ _ 28 rfl 0 3 j0 (.int .i64 0) 1 Try.underlying28 hj hy0 hy1 .i64 .i64 _ _ n rfl rfl ?_ ?_ ?_ ?_ ?_ ?_))
  · rfl
  · rfl
  · rw [hy2]; omega
  · unfold maxLen; omega
  · omega
  · intro w3 hown hgrow
    have hrb : w.heap.size < w2.heap.size := lt_of_block HB2.out
    have HF23 : Hid (Fr (fun _ => False) w2 w3) := (((Fr.refl (fun _ => False) w2).alloc _).alloc _).grown hgrow (fun _ e _ => by cases e)
    have HBC : Hid (w3.heap[w2.heap.size + 1]? = some (.cells #[.float .f64 T', .slice none 0 0, .map (some w2.heap.size)] 42 (0, 0))) := by
      have h1 := heap_alloc_new (w2.alloc (.map #[] 0)) (.cells #[.float .f64 T', .slice none 0 0, .map (some w2.heap.size)] 42)
      rw [World.size_alloc] at h1
      show _ = _
      rw [hgrow.block _ (by simp) (by simp)]
      exact h1
    have HMP : Hid (w3.ownsMap Try.prog 53 heldR w2.heap.size 0 (.map [])) := ((World.ownsMap_made w2 _ _ _).alloc _).kept hgrow (by simp)
    have HOW : Hid (w3.ownsRow 0 3 1 (.slice (some ⟨w2.heap.size + 1 + 1, 0, none⟩) n n) n (intCells ([] ++ List.replicate (n - 0) 0))) := by
      rw [toList_madeCells_one, intCells_zero] at hown
      rw [List.nil_append, Nat.sub_zero]
      exact hown
    have hs3 : w2.heap.size + 1 + 1 < w3.heap.size := (hown.lt _ rfl).2
    have HB3 : Hid (w3.heap[w.heap.size]? = some (.cells #[.slice none 0 0, .slice none 0 0] 30 (0, 0))) := blkOld HF23.out HB2.out
    have HF3 : Hid (Fr (fun _ => False) w w3) := HF2.out.trans HF23.out (fun _ _ h => h)
    have HCL0 : Hid (Cl w3 w3.heap.size (w2.heap.size + 1) w2.heap.size T' A [] (.slice none 0 0) (fun _ => .slice none 0 0) 0 (.map []) (fun _ _ => .slice none 0 0)) := cl_zero HBC.out HMP.out
    clear hown hgrow HBC HMP HF23 HB2 HF2 HM hmm hsf
    have hsw := HF3.out.size
    generalize w2.heap.size = bm at *
    generalize hbc : bm + 1 = bc at *
    generalize hgc : bc + 1 = gc at *
    generalize hba : w3.heap.size = base at *
    have HLE : Hid (w.heap.size < bm ∧ bm < bc ∧ bc < gc ∧ gc < base) := by show _ ∧ _; omega
    have HBA : Hid (w3.heap.size = base) := hba
    clear hbc hgc hba
    have HTOL : Hid (nrA T' A = nrA T A) := by show _ = _; rw [← HTT.out]; exact nrA_tol T A
    go_wp2_with fail
    go_loopg [6, 9, 10, 31] n (fun q er _ _ k wr => ∃ (i : Nat) (rv : Value) (U : Nat → Value) (D : DataW Value) (V : Nat → Nat → Value), i + q = n ∧ i ≤ n0 ∧ k = .int .i64 (i : Int) ∧ er = .int .i64 0 ∧ Cl wr base bc bm T' A (clR (nrA T A) i) rv U (clR (nrA T A) i).length D V ∧ wr.ownsRow 0 3 1 (.slice (some ⟨gc, 0, none⟩) n n) n (intCells (clC (nrA T A) i ++ List.replicate (n - i) 0)) ∧ wr.heap[w.heap.size]? = some (.cells #[.slice none 0 0, .slice none 0 0] 30 (0, 0)) ∧ base ≤ wr.heap.size ∧ Fr (fun _ => False) w wr)
    case atStart => exact ⟨0, _, _, _, _, by omega, Nat.zero_le _, rfl, rfl, HCL0.out, HOW.out, HB3.out, Nat.le_of_eq HBA.out.symm, HF3.out⟩
    case round =>
      obtain ⟨i, rv, U, D, V, hjq, hle, rfl, rfl, hcl, how, hrbk, hbw, hfr⟩ := hrel
      have HCL : Hid (Cl wr base bc bm T' A (clR (nrA T A) i) rv U (clR (nrA T A) i).length D V) := hcl
      have HO : Hid (wr.ownsRow 0 3 1 (.slice (some ⟨gc, 0, none⟩) n n) n (intCells (clC (nrA T A) i ++ List.replicate (n - i) 0))) := how
      have HRB : Hid (wr.heap[w.heap.size]? = some (.cells #[.slice none 0 0, .slice none 0 0] 30 (0, 0))) := hrbk
      have HFr : Hid (Fr (fun _ => False) w wr) := hfr
      clear hcl how hrbk hfr HCL0 HOW HB3 HF3
      have hn0 := HN0.out
      by_cases h1 : i < n0
      · have h1n : i < n := by omega
        have d1 : decide (i < n) = true := decide_eq_true h1n
        clear hn0
        obtain ⟨b, off, hao, hcc⟩ := (HBP.out wr HFr.out).cells (by omega)
        obtain ⟨k0, k1, k2⟩ := hcc i h1n
        subst hao
        obtain ⟨W, H, e1, e2, g1, g2, g3, -, -⟩ := (HG.out i h1n).vb
        obtain ⟨s1, s2, -⟩ := size_facts g1 g2 g3
        have HSE := ((HBP.out wr HFr.out).ok i h1n).hv
        obtain ⟨av, cv, hv, -⟩ := HSE
        have HJ : Hid (∀ w', Fr (fun _ => False) wr w' → Calls Try.prog 9 #[.pointer (some ⟨bc, 0, none⟩), .agg #[.int .i64 (W : Int), .int .i64 (H : Int), (A i).v]] w' fun e w'' => ∃ rv' U' m' D' V' R' c, e = .returned (.tuple #[.int .i64 ((c : Nat) : Int), .int .i64 0]) ∧ Cl w'' base bc bm T' A R' rv' U' m' D' V' ∧ Fr (fun k => k = bc ∨ k = bm ∨ base ≤ k) w' w'' ∧ R' = clR (nrA T A) (i + 1) ∧ clC (nrA T A) (i + 1) = clC (nrA T A) i ++ [c] ∧ m' = R'.length) := fun w' f => by
          have hR : (clR (nrA T A) i).length ≤ 4096 := Nat.le_trans (clR_mono _ (Nat.le_of_lt h1)) (Nat.le_of_eq HLN.out)
          have hnext := clR_mono (nrA T A) (show i + 1 ≤ n0 from h1)
          refine (join_any i W H (A i).v w' (HCL.out.kept f (fun h => h) (fun h => h) (fun _ _ h => h)) hR ?_ s1 s2 (((HBP.out wr HFr.out).ok i h1n).hv.kept f) e1 e2 (fun r hr => HG.out r (by have := clR_lt _ _ r hr; omega)) (HG.out i h1n) (Nat.le_trans hbw f.size) hR).mono ?_
          · rw [HTOL.out]
            cases hfn : fnd (nrA T A) (clR (nrA T A) i) i with
            | some c => exact Or.inr (by simp)
            | none =>
              refine Or.inl ?_
              rw [clR_succ_none hfn, List.length_append, List.length_singleton] at hnext
              have := HLN.out
              omega
          · rintro e w'' ⟨rv', U', m', D', V', R', c, he, hcl, hfr, hd⟩
            rw [HTOL.out] at hd
            refine ⟨rv', U', m', D', V', R', c, he, hcl, hfr, ?_⟩
            rcases hd with ⟨hs, rfl, rfl⟩ | ⟨hs, rfl, rfl, rfl⟩
            · exact ⟨(clR_succ_some hs).symm, clC_succ_some hs, rfl⟩
            · exact ⟨(clR_succ_none hs).symm, clC_succ_none hs, by simp⟩
        rw [hv] at k2 HJ
        rw [e1] at k0
        rw [e2] at k1
        clear hv e1 e2 hcc
        have HPS : Hid (∀ c, (intCells (clC (nrA T A) i ++ List.replicate (n - i) 0)).set i (.int .i64 ((c : Nat) : Int)) = intCells ((clC (nrA T A) i ++ [c]) ++ List.replicate (n - (i + 1)) 0)) := fun c => by
          have := pad_set (clC (nrA T A) i) n c (by rw [length_clC]; exact h1n)
          rw [length_clC] at this
          rw [intCells_set, this]
        have hlc := length_clC (nrA T A) i
        go_wp2_with fail
        refine (HJ.out _ ((Fr.refl _ _).alloc _)).mono ?_
        rintro e w5 ⟨rv', U', m', D', V', R', c, rfl, hcl5, hf5, hR', hC', rfl⟩
        subst hR'
        have HF5 : Hid (Fr (fun k => k = bc ∨ k = bm ∨ base ≤ k) wr w5) := (((Fr.refl (fun _ => False) wr).alloc _).mono (fun _ _ h => h.elim)).trans hf5 (fun _ _ h => h)
        have HO5 : Hid (w5.ownsRow 0 3 1 (.slice (some ⟨gc, 0, none⟩) n n) n (intCells (clC (nrA T A) i ++ List.replicate (n - i) 0))) := row_kept HO.out HF5.out (fun k hk h => by
          simp [Value.ownBlock] at hk
          have := HLE.out
          omega)
        have HFw : Hid (Fr (fun _ => False) w (w5.setCell ⟨gc, i, none⟩ (.int .i64 ((c : Nat) : Int)))) := (HFr.out.trans HF5.out (fun k hk h => by have := HLE.out; have := hsw; omega)).setCell (p := ⟨gc, i, none⟩) (fun h => by have := HLE.out; have : gc < w.heap.size := h; omega) _
        have HFG : Hid (Fr (fun k => k = gc) w5 (w5.setCell ⟨gc, i, none⟩ (.int .i64 ((c : Nat) : Int)))) := (Fr.refl (fun k => k = gc) w5).setCell (p := ⟨gc, i, none⟩) (fun _ => rfl) _
        have HCL6 : Hid (Cl (w5.setCell ⟨gc, i, none⟩ (.int .i64 ((c : Nat) : Int))) base bc bm T' A (clR (nrA T A) (i + 1)) rv' U' (clR (nrA T A) (i + 1)).length D' V') := hcl5.kept HFG.out (by have := HLE.out; omega) (by have := HLE.out; omega) (fun k hk h => by have := HLE.out; omega)
        have HO6 : Hid ((w5.setCell ⟨gc, i, none⟩ (.int .i64 ((c : Nat) : Int))).ownsRow 0 3 1 (.slice (some ⟨gc, 0, none⟩) n n) n (intCells (clC (nrA T A) (i + 1) ++ List.replicate (n - (i + 1)) 0))) := by
          have := (World.ownsRow.stored HO5.out i (.int .i64 ((c : Nat) : Int))).1
          rw [HPS.out c, ← hC'] at this
          exact this
        have HRB6 : Hid ((w5.setCell ⟨gc, i, none⟩ (.int .i64 ((c : Nat) : Int))).heap[w.heap.size]? = some (.cells #[.slice none 0 0, .slice none 0 0] 30 (0, 0))) := by
          show _ = _
          rw [HFG.out.block _ (by have := HF5.out.size; have := lt_of_block HRB.out; omega) (by have := HLE.out; omega), HF5.out.block _ (lt_of_block HRB.out) (fun h => by have := HLE.out; have := hsw; omega)]
          exact HRB.out
        have hb6 : base ≤ (w5.setCell ⟨gc, i, none⟩ (.int .i64 ((c : Nat) : Int))).heap.size := by
          have := HFG.out.size
          have := HF5.out.size
          omega
        have c6 : w5.cell? ⟨gc, i, none⟩ = some (.int .i64 0) := by
          rw [World.ownsRow.cellAt HO5.out i (by omega), intCells_get _ (by rw [List.length_append, hlc, List.length_replicate]; omega), List.getD_eq_getElem?_getD, List.getElem?_append_right (by omega), hlc, Nat.sub_self, show n - i = (n - (i + 1)) + 1 by omega]
          rfl
        have f6 : w5.frozen? ⟨gc, i, none⟩ = false := World.ownsRow.frozenAt HO5.out i
        clear hcl5 hf5 hC' hlc
        go_wp2_with fail
        go_roundg (n - (i + 1))
        case measure => omega
        case rel => exact ⟨i + 1, _, _, _, _, by omega, h1, by go_num, rfl, HCL6.out, HO6.out, HRB6.out, hb6, HFw.out⟩
      · by_cases h2 : i = n0
        · have h1n : i < n := by omega
          have d1 : decide (i < n) = true := decide_eq_true h1n
          subst h2
          clear hn0 h1
          obtain ⟨b, off, hao, hcc⟩ := (HBP.out wr HFr.out).cells (by omega)
          obtain ⟨k0, k1, k2⟩ := hcc i h1n
          subst hao
          obtain ⟨W, H, e1, e2, g1, g2, g3, -, -⟩ := (HG.out i h1n).vb
          obtain ⟨s1, s2, -⟩ := size_facts g1 g2 g3
          have HSE := ((HBP.out wr HFr.out).ok i h1n).hv
          obtain ⟨av, cv, hv, -⟩ := HSE
          have HJ : Hid (∀ w', Fr (fun _ => False) wr w' → Calls Try.prog 9 #[.pointer (some ⟨bc, 0, none⟩), .agg #[.int .i64 (W : Int), .int .i64 (H : Int), (A i).v]] w' fun e w'' => e = .returned (.tuple #[.int .i64 0, .int .i64 120]) ∧ Fr (fun _ => False) w' w'') := fun w' f =>
            join_full i W H (A i).v w' (HCL.out.kept f (fun h => h) (fun h => h) (fun _ _ h => h)) HLN.out (by rw [HTOL.out]; exact HNO.out) s1 s2 (((HBP.out wr HFr.out).ok i h1n).hv.kept f) e1 e2 (fun r hr => HG.out r (by have := clR_lt _ _ r hr; omega)) (HG.out i h1n)
          rw [hv] at k2 HJ
          rw [e1] at k0
          rw [e2] at k1
          clear hv e1 e2 hcc
          go_wp2_with fail
          refine (HJ.out _ ((Fr.refl _ _).alloc _)).mono ?_
          rintro e w5 ⟨rfl, hf5⟩
          have HF5 : Hid (Fr (fun _ => False) wr w5) := ((Fr.refl (fun _ => False) wr).alloc _).trans hf5 (fun _ _ h => h)
          have HO5 : Hid (w5.ownsRow 0 3 1 (.slice (some ⟨gc, 0, none⟩) n n) n (intCells (clC (nrA T A) i ++ List.replicate (n - i) 0))) := row_kept HO.out HF5.out (fun k hk h => h)
          have hlc := length_clC (nrA T A) i
          have c6 : w5.cell? ⟨gc, i, none⟩ = some (.int .i64 0) := by
            rw [World.ownsRow.cellAt HO5.out i (by omega), intCells_get _ (by rw [List.length_append, hlc, List.length_replicate]; omega), List.getD_eq_getElem?_getD, List.getElem?_append_right (by omega), hlc, Nat.sub_self, show n - i = (n - (i + 1)) + 1 by omega]
            rfl
          have f6 : w5.frozen? ⟨gc, i, none⟩ = false := World.ownsRow.frozenAt HO5.out i
          have HRB6 : Hid ((w5.setCell ⟨gc, i, none⟩ (.int .i64 0)).heap[w.heap.size]? = some (.cells #[.slice none 0 0, .slice none 0 0] 30 (0, 0))) := by
            show _ = _
            rw [((Fr.refl (fun k => k = gc) w5).setCell (p := ⟨gc, i, none⟩) (fun _ => rfl) (.int .i64 0)).block _ (by have := HF5.out.size; have := lt_of_block HRB.out; omega) (by have := HLE.out; omega)]
            exact blkOld HF5.out HRB.out
          have HFw : Hid (Fr (fun _ => False) w (w5.setCell ⟨gc, i, none⟩ (.int .i64 0))) := (HFr.out.trans HF5.out (fun _ _ h => h)).setCell (p := ⟨gc, i, none⟩) (fun h => by have := HLE.out; have : gc < w.heap.size := h; omega) _
          clear hf5 hlc
          obtain ⟨c0, c1, cf⟩ := two_cells HRB6.out
          have f0 := cf 0
          have f1 := cf 1
          clear cf
          go_wp2_with fail
          refine bodyPost_ret (v := .tuple #[.agg #[.slice none 0 0, .slice none 0 0], .int .i64 120]) (by obtain ⟨m0, m1, _⟩ := two_cells (set2_cells HRB6.out (.slice none 0 0) (.slice none 0 0)); simp [results, Try.results4, go_sem, m0, m1]) rfl ?_
          exact ⟨rfl, (HFw.out.setCell (p := ⟨w.heap.size, 0, none⟩) (fun h => absurd h (Nat.lt_irrefl _)) _).setCell (p := ⟨w.heap.size, 1, none⟩) (fun h => absurd h (Nat.lt_irrefl _)) _⟩
        · omega

end Go.Proofs.Ytodgdbbhllejkab
