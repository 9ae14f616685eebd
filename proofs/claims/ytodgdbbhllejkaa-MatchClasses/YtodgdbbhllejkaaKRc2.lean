/- The reference's 'Classes' of bitmaps that may be. -/
import Derived.Test.YtodgdbbhllejkaaKRc
import Derived.Test.YtodgdbbhllejkaaKBg
import Derived.Test.YtodgdbbhllejkaaKCz
namespace Go.Proofs.Ytodgdbbhllejkaa
open Go.RowKit Go.Maps

/-- What the reference's 'Classes' tells, in memory. -/
structure MatR (w : World) (base : Nat) (cv rv : Value) (A : Nat → Bp) (C R : List Nat) (U : Nat → Value) : Prop where
  cls : w.ownsRow base 3 1 cv C.length (intCells C)
  reps : w.ownsRow base 48 3 rv R.length (repCells A U R R.length)
  words : ∀ c, c < R.length → w.ownsRow base 23 1 (U c) (A (R.getD c 0)).l.length (wordCells (A (R.getD c 0)).l)
/-- The same, while it grows: the variable at bm. -/
structure RMt (w : World) (base bm : Nat) (cv rv : Value) (A : Nat → Bp) (C R : List Nat) (U : Nat → Value) : Prop where
  blk : w.heap[bm]? = some (.cells #[cv, rv] 33 (0, 0))
  m : MatR w base cv rv A C R U
theorem MatR.kept {w w' : World} {base : Nat} {cv rv : Value} {A : Nat → Bp} {C R : List Nat} {U : Nat → Value} (h : MatR w base cv rv A C R U) (f : Fr (fun _ => False) w w') : MatR w' base cv rv A C R U :=
  ⟨row_kept h.cls f (fun _ _ h => h), row_kept h.reps f (fun _ _ h => h), fun c hc => row_kept (h.words c hc) f (fun _ _ h => h)⟩
theorem RMt.kept {w w' : World} {base bm : Nat} {cv rv : Value} {A : Nat → Bp} {C R : List Nat} {U : Nat → Value} (h : RMt w base bm cv rv A C R U) (f : Fr (fun _ => False) w w') : RMt w' base bm cv rv A C R U := ⟨blkOld f h.blk, h.m.kept f⟩

theorem RMt.rep {w w1 w3 : World} {base bm i g cap : Nat} {cv rv u : Value} {A : Nat → Bp} {C R : List Nat} {U : Nat → Value} (h : RMt w base bm cv rv A C R U) (hb : base ≤ w.heap.size) (f01 : Fr (fun _ => False) w w1) (hu : w1.ownsRow w.heap.size 23 1 u (A i).l.length (wordCells (A i).l))
    (o : Obj) (ho : w3.ownsRow 0 48 3 (.slice (some ⟨g, 0, none⟩) (R.length + 1) cap) (R.length + 1) (repCells A U R R.length ++ [.int .i64 (A i).x, .int .i64 (A i).y, u]))
    (hg : (w1.alloc o).grownBy w3 rv.ownBlock) (hloc : rv.ownBlock = some g ∨ (w1.alloc o).heap.size ≤ g) :
    RMt (w3.setCell ⟨bm, 1, none⟩ (.slice (some ⟨g, 0, none⟩) (R.length + 1) cap)) base bm cv (.slice (some ⟨g, 0, none⟩) (R.length + 1) cap) A C (R ++ [i]) (updU U R.length u) ∧
    Fr (fun k => k = bm ∨ rv.ownBlock = some k) w (w3.setCell ⟨bm, 1, none⟩ (.slice (some ⟨g, 0, none⟩) (R.length + 1) cap)) := by
  have hbr : rv.ownBlock ≠ some bm := row_not_cells h.m.reps h.blk (by decide)
  have hsz := f01.size
  have f13 : Fr (fun k => rv.ownBlock = some k) w w3 := ((f01.alloc o).mono (fun _ _ h => h.elim)).trans (grown_fr (S := fun k => rv.ownBlock = some k) hg (fun k hk => hk)) (fun _ _ h => h)
  have hb3 : w3.heap[bm]? = some (.cells #[cv, rv] 33 (0, 0)) := by rw [f13.block bm (lt_of_block h.blk) hbr]; exact h.blk
  have hf4 : Fr (fun k => k = bm) w3 (w3.setCell ⟨bm, 1, none⟩ (.slice (some ⟨g, 0, none⟩) (R.length + 1) cap)) := (Fr.refl (fun k => k = bm) w3).setCell (p := ⟨bm, 1, none⟩) (fun _ => rfl) _
  have hgb : ∀ k, Value.ownBlock (.slice (some ⟨g, 0, none⟩) (R.length + 1) cap) = some k → k ≠ bm := fun k hk e => by
    subst e
    exact row_not_cells ho hb3 (by decide) hk
  have hgbase : base ≤ g := by
    rcases hloc with e | e
    · exact (h.m.reps.lt g e).1
    · rw [World.size_alloc] at e; omega
  have hlen : (R ++ [i]).length = R.length + 1 := by simp
  refine ⟨⟨?_, ?_, ?_, ?_⟩, ?_⟩
  · simp [World.setCell, Array.getElem?_modify, hb3]
  · have q0 := h.m.cls
    have q1 := row_kept q0 f13 (fun k hk e => by
      rcases own_ne2 q0 h.m.reps (by decide) with h' | h'
      · rw [h'] at hk; cases hk
      · exact h' (hk.trans e.symm))
    exact row_kept q1 hf4 (fun k hk e => by subst e; exact row_not_cells q0 h.blk (by decide) hk)
  · rw [hlen, repCells_snoc]
    refine ownsRow_base (row_kept ho hf4 (fun k hk e => hgb k hk e)) (fun k hk => ?_)
    simp [Value.ownBlock] at hk
    omega
  · intro c hc
    rw [hlen] at hc
    by_cases e : c = R.length
    · subst e
      rw [getD_append_eq, show updU U R.length u R.length = u from if_pos rfl]
      have q1 : w3.ownsRow w.heap.size 23 1 u _ _ := row_kept hu (((Fr.refl (fun k => rv.ownBlock = some k) w1).alloc o).trans (grown_fr (S := fun k => rv.ownBlock = some k) hg (fun k hk => hk)) (fun _ _ h => h)) (fun k hk e => by
        have h1 := (hu.lt k hk).1
        have h2 := (h.m.reps.lt k e).2
        omega)
      refine ownsRow_base (row_kept q1 hf4 (fun k hk e => by
        subst e
        have h1 := (hu.lt k hk).1
        have := lt_of_block h.blk
        omega)) (fun k hk => by have := (hu.lt k hk).1; omega)
    · have hc' : c < R.length := by omega
      rw [getD_append_lt R i hc', show updU U R.length u c = U c from if_neg e]
      have q0 := h.m.words c hc'
      have q1 := row_kept q0 f13 (fun k hk e => by
        rcases own_ne2 q0 h.m.reps (by decide) with h' | h'
        · rw [h'] at hk; cases hk
        · exact h' (hk.trans e.symm))
      exact row_kept q1 hf4 (fun k hk e => by subst e; exact row_not_cells q0 h.blk (by decide) hk)
  · exact (f13.mono (fun _ _ h => Or.inr h)).trans hf4 (fun _ _ h => Or.inl h)

theorem RMt.cl {w w3 : World} {base bm c g cap : Nat} {cv rv : Value} {A : Nat → Bp} {C R : List Nat} {U : Nat → Value} (h : RMt w base bm cv rv A C R U) (hb : base ≤ w.heap.size)
    (o : Obj) (ho : w3.ownsRow 0 3 1 (.slice (some ⟨g, 0, none⟩) (C.length + 1) cap) (C.length + 1) (intCells C ++ [.int .i64 (c : Int)]))
    (hg : (w.alloc o).grownBy w3 cv.ownBlock) (hloc : cv.ownBlock = some g ∨ (w.alloc o).heap.size ≤ g) :
    RMt (w3.setCell ⟨bm, 0, none⟩ (.slice (some ⟨g, 0, none⟩) (C.length + 1) cap)) base bm (.slice (some ⟨g, 0, none⟩) (C.length + 1) cap) rv A (C ++ [c]) R U ∧
    Fr (fun k => k = bm ∨ cv.ownBlock = some k) w (w3.setCell ⟨bm, 0, none⟩ (.slice (some ⟨g, 0, none⟩) (C.length + 1) cap)) ∧ w3.heap[bm]? = some (.cells #[cv, rv] 33 (0, 0)) := by
  have hbr : cv.ownBlock ≠ some bm := row_not_cells h.m.cls h.blk (by decide)
  have f13 : Fr (fun k => cv.ownBlock = some k) w w3 := ((Fr.refl (fun k => cv.ownBlock = some k) w).alloc o).trans (grown_fr (S := fun k => cv.ownBlock = some k) hg (fun k hk => hk)) (fun _ _ h => h)
  have hb3 : w3.heap[bm]? = some (.cells #[cv, rv] 33 (0, 0)) := by rw [f13.block bm (lt_of_block h.blk) hbr]; exact h.blk
  have hf4 : Fr (fun k => k = bm) w3 (w3.setCell ⟨bm, 0, none⟩ (.slice (some ⟨g, 0, none⟩) (C.length + 1) cap)) := (Fr.refl (fun k => k = bm) w3).setCell (p := ⟨bm, 0, none⟩) (fun _ => rfl) _
  have hgbase : base ≤ g := by
    rcases hloc with e | e
    · exact (h.m.cls.lt g e).1
    · rw [World.size_alloc] at e; omega
  have hlen : (C ++ [c]).length = C.length + 1 := by simp
  refine ⟨⟨?_, ?_, ?_, ?_⟩, ?_, hb3⟩
  · simp [World.setCell, Array.getElem?_modify, hb3]
  · rw [hlen, intCells_append]
    refine ownsRow_base (row_kept ho hf4 (fun k hk e => ?_)) (fun k hk => ?_)
    · subst e; exact row_not_cells ho hb3 (by decide) hk
    · simp [Value.ownBlock] at hk
      omega
  · have q0 := h.m.reps
    have q1 := row_kept q0 f13 (fun k hk e => by
      rcases own_ne2 q0 h.m.cls (by decide) with h' | h'
      · rw [h'] at hk; cases hk
      · exact h' (hk.trans e.symm))
    exact row_kept q1 hf4 (fun k hk e => by subst e; exact row_not_cells q0 h.blk (by decide) hk)
  · intro d hd
    have q0 := h.m.words d hd
    have q1 := row_kept q0 f13 (fun k hk e => by
      rcases own_ne2 q0 h.m.cls (by decide) with h' | h'
      · rw [h'] at hk; cases hk
      · exact h' (hk.trans e.symm))
    exact row_kept q1 hf4 (fun k hk e => by subst e; exact row_not_cells q0 h.blk (by decide) hk)
  · exact (f13.mono (fun _ _ h => Or.inr h)).trans hf4 (fun _ _ h => Or.inl h)

theorem fnd_first {nr : Nat → Nat → Bool} {R : List Nat} {i k : Nat} (hk : k < R.length) (h1 : nr (R.getD k 0) i = true) (h0 : ∀ c, c < k → nr (R.getD c 0) i = false) : fnd nr R i = some k := by
  unfold fnd
  rw [List.find?_eq_some_iff_getElem]
  refine ⟨h1, k, by simpa using hk, by simp, fun j hj => ?_⟩
  simpa [List.getD_eq_getElem?_getD] using h0 j hj
theorem fnd_none {nr : Nat → Nat → Bool} {R : List Nat} {i : Nat} (h0 : ∀ c, c < R.length → nr (R.getD c 0) i = false) : fnd nr R i = none := by
  unfold fnd
  rw [List.find?_eq_none]
  intro c hc
  have := h0 c (List.mem_range.1 hc)
  simpa [List.getD_eq_getElem?_getD] using this

set_option linter.unusedSimpArgs false in
set_option maxRecDepth 100000 in
set_option maxHeartbeats 8000000 in
theorem rclasses_ok (ao : Option Addr) (n cap T : Nat) (A : Nat → Bp) (w : World) (hB : BpsAt w ao n A) (hn : n ≤ 40) (ht : tolB T = true) (hall : allB A n = true) (hlen : ∀ j, j < n → (A j).l.length ≤ 1048576) :
    Calls Try.prog 13 #[.slice ao n cap, .float .f64 T] w fun e w' => ∃ cv rv U, e = .returned (.tuple #[.agg #[cv, rv], .int .i64 0]) ∧ MatR w' w.heap.size cv rv A (clC (nrA T A) n) (clR (nrA T A) n) U ∧ Fr (fun _ => False) w w' := by
  obtain ⟨i0, hi, hz0, hz1, hz2⟩ := info_parts Try.infoBm
  obtain ⟨j0, hj, hy0, hy1, hy2⟩ := info_parts Try.infoInt
  have HT : Hid (∀ w', Calls Try.prog 24 #[.float .f64 T] w' fun e w'' => e = .returned (.bool true) ∧ w'' = w') := fun w' => by
    have := rfits_any T w'
    rwa [ht] at this
  have HBA : Hid (∀ w', Fr (fun _ => False) w w' → BpsAt w' ao n A) := fun w' f => hB.kept f
  have HG : Hid (∀ j, j < n → Good (A j)) := fun j hj => (hB.ok j hj).good (of_decide_eq_true hall j hj)
  have HC : Hid (∀ w', Fr (fun _ => False) w w' → ∀ j, j < n → Calls Try.prog 28 #[.agg #[.int .i64 (A j).x, .int .i64 (A j).y, (A j).v]] w' fun e w'' => e = .returned (.bool true) ∧ Fr (fun _ => False) w' w'') := fun w' f j hj => by
    have := (HBA.out w' f).ok j hj
    have h2 := may_any _ _ _ _ w' this.hx this.hy this.hv this.hlt
    rwa [show validB (A j).x (A j).y (A j).l = true from of_decide_eq_true hall j hj] at h2
  have HCE : Hid (∀ w', Fr (fun _ => False) w w' → ∀ j, j < n → ∃ b off, ao = some ⟨b, off, none⟩ ∧ w'.cell? ⟨b, off + j * 3, none⟩ = some (.int .i64 (A j).x) ∧ w'.cell? ⟨b, off + j * 3 + 1, none⟩ = some (.int .i64 (A j).y) ∧ w'.cell? ⟨b, off + j * 3 + 2, none⟩ = some (A j).v) := fun w' f j hj => by
    obtain ⟨b, off, e, hc⟩ := (HBA.out w' f).cells (by omega)
    exact ⟨b, off, e, hc j hj⟩
  have HSL : Hid (∀ j, j < n → ∃ av nv cv, (A j).v = .slice av nv cv) := fun j hj => by
    obtain ⟨av, cv, e, _⟩ := (hB.ok j hj).hv
    exact ⟨_, _, _, e⟩
  have HLN : Hid (∀ j, j < n → (A j).l.length ≤ 1048576) := hlen
  clear hB hall ht hlen
  have HB : Hid ((w.alloc (.cells #[.slice none 0 0, .slice none 0 0] 33)).heap[w.heap.size]? = some (.cells #[.slice none 0 0, .slice none 0 0] 33 (0, 0))) := heap_alloc_new _ _
  have HF : Hid (Fr (fun _ => False) w (w.alloc (.cells #[.slice none 0 0, .slice none 0 0] 33))) := (Fr.refl _ _).alloc _
  go_enter Try.func13, Try.ntmps13
  go_wp2_with fail
  generalize w.alloc (.cells #[.slice none 0 0, .slice none 0 0] 33) = w0 at *
  refine (HT.out _).mono ?_
  rintro e w1 ⟨rfl, rfl⟩
  go_wp2_with fail
  go_loopg [6] n (fun q k wr => ∃ (j : Nat), j + q = n ∧ k = .int .i64 (j : Int) ∧ Fr (fun _ => False) w1 wr)
  case atStart => exact ⟨0, by omega, rfl, Fr.refl _ _⟩
  case round =>
    obtain ⟨j, hjq, rfl, hfr⟩ := hrel
    have HFr : Hid (Fr (fun _ => False) w wr) := HF.out.trans hfr (fun _ _ h => h)
    have HF1 : Hid (Fr (fun _ => False) w1 wr) := hfr
    clear hfr
    by_cases h1 : j < n
    · have d1 : decide (j < n) = true := decide_eq_true h1
      obtain ⟨b, off, rfl, k0, k1, k2⟩ := HCE.out wr HFr.out j h1
      obtain ⟨av, nv, cv, hv⟩ := HSL.out j h1
      have HCK := HC.out wr HFr.out j h1
      rw [hv] at HCK k2
      have HCK' : Hid _ := HCK
      clear HCK hv
      generalize hx : (A j).x = x at *
      generalize hy : (A j).y = y at *
      clear hx hy
      go_wp2_with fail
      refine Calls.mono HCK'.out ?_
      rintro e w4 ⟨rfl, hf4⟩
      have HF4 : Hid (Fr (fun _ => False) w1 w4) := HF1.out.trans hf4 (fun _ _ h => h)
      clear hf4
      go_wp2_with fail
      go_roundg (n - (j + 1))
      case measure => omega
      case rel => exact ⟨j + 1, by omega, by go_num, HF4.out⟩
    · have d1 : decide (j < n) = false := decide_eq_false h1
      clear h1 hjq
      have HF8 : Hid (Fr (fun _ => False) w (wr.alloc (.cells #[.slice none 0 0, .slice none 0 0] 33))) := HFr.out.alloc _
      have HR8 : Hid (RMt (wr.alloc (.cells #[.slice none 0 0, .slice none 0 0] 33)) w.heap.size wr.heap.size (.slice none 0 0) (.slice none 0 0) A (clC (nrA T A) 0) (clR (nrA T A) 0) (fun _ => .slice none 0 0)) := ⟨heap_alloc_new _ _, ⟨World.ownsRow_nil _ _ _ _, World.ownsRow_nil _ _ _ _, fun c hc => absurd hc (Nat.not_lt_zero _)⟩⟩
      have HRB8 : Hid ((wr.alloc (.cells #[.slice none 0 0, .slice none 0 0] 33)).heap[w.heap.size]? = some (.cells #[.slice none 0 0, .slice none 0 0] 33 (0, 0))) := blkUp (blkOld HF1.out HB.out) _
      have HBM : Hid (w.heap.size < wr.heap.size) := lt_of_block (blkOld HF1.out HB.out)
      go_wp2_with fail
      generalize wr.alloc (.cells #[.slice none 0 0, .slice none 0 0] 33) = w8 at *
      generalize wr.heap.size = bm at *
      clear HFr HF1 d1
      go_loopg [8, 9, 10] n (fun q kk _ _ wr => ∃ (i : Nat) (cv rv : Value) (U : Nat → Value), i + q = n ∧ kk = .int .i64 (i : Int) ∧ RMt wr w.heap.size bm cv rv A (clC (nrA T A) i) (clR (nrA T A) i) U ∧ wr.heap[w.heap.size]? = some (.cells #[.slice none 0 0, .slice none 0 0] 33 (0, 0)) ∧ Fr (fun _ => False) w wr)
      case atStart => exact ⟨0, _, _, _, by omega, rfl, HR8.out, HRB8.out, HF8.out⟩
      case round =>
        obtain ⟨i, cv, rv, U, hjq, rfl, hm, hrb, hfr⟩ := hrel
        clear HR8 HRB8 HF8
        obtain ⟨R, HR⟩ : ∃ R, Hid (R = clR (nrA T A) i) := ⟨_, rfl⟩
        rw [← HR.out] at hm
        obtain ⟨ac, cc, hcv⟩ := own_slice hm.m.cls
        rw [length_clC] at hcv
        subst hcv
        obtain ⟨ar, cr, hrv⟩ := own_slice hm.m.reps
        obtain ⟨nR, HNR⟩ : ∃ nR, Hid (nR = R.length) := ⟨_, rfl⟩
        rw [← HNR.out] at hrv
        subst hrv
        have HM : Hid (RMt wr w.heap.size bm (.slice ac i cc) (.slice ar nR cr) A (clC (nrA T A) i) R U) := hm
        have HRB : Hid (wr.heap[w.heap.size]? = some (.cells #[.slice none 0 0, .slice none 0 0] 33 (0, 0))) := hrb
        have HFr : Hid (Fr (fun _ => False) w wr) := hfr
        clear hm hrb hfr
        by_cases h1 : i < n
        · have d1 : decide (i < n) = true := decide_eq_true h1
          have hnR : nR ≤ 40 := by
            have h2 := clR_le (nrA T A) i
            rw [← HR.out, ← HNR.out] at h2
            omega
          obtain ⟨wo, hwo⟩ : ∃ wo : World, wo = wr := ⟨_, rfl⟩
          subst hwo
          go_wp2_with fail
          go_loopg [9, 10] nR (fun q a kk w2 => ∃ k : Nat, k + q = nR ∧ kk = .int .i64 (k : Int) ∧ ((a = .int .i64 (-1) ∧ Hid (∀ c, c < k → nrA T A (R.getD c 0) i = false)) ∨ ∃ c : Nat, a = .int .i64 (c : Int) ∧ c < nR ∧ Hid (fnd (nrA T A) R i = some c)) ∧ Fr (fun _ => False) wo w2)
          case atStart => exact ⟨0, by omega, rfl, Or.inl ⟨rfl, fun c hc => absurd hc (Nat.not_lt_zero _)⟩, Fr.refl _ _⟩
          case round =>
            obtain ⟨k, hkq, rfl, hcase, hf2⟩ := hrel
            have HFk : Hid (Fr (fun _ => False) wo wr) := hf2
            have HMr : Hid (RMt wr w.heap.size bm (.slice ac i cc) (.slice ar nR cr) A (clC (nrA T A) i) R U) := HM.out.kept hf2
            have HRBr : Hid (wr.heap[w.heap.size]? = some (.cells #[.slice none 0 0, .slice none 0 0] 33 (0, 0))) := blkOld hf2 HRB.out
            have HFw : Hid (Fr (fun _ => False) w wr) := HFr.out.trans hf2 (fun _ _ h => h)
            clear hf2
            obtain ⟨z0, z1, zf⟩ := two_cells HMr.out.blk
            clear zf
            rcases hcase with ⟨rfl, HN⟩ | ⟨c, rfl, hc, HFd⟩
            · by_cases hk : k < nR
              · have dk : decide (k < nR) = true := decide_eq_true hk
                obtain ⟨gr, cr', e1, -⟩ := row_form HMr.out.m.reps (by have := HNR.out; omega)
                simp only [Value.slice.injEq] at e1
                obtain ⟨hgr, -, -⟩ := e1
                subst hgr
                have HRC : Hid (∀ w', Fr (fun _ => False) wr w' → w'.cell? ⟨gr, k * 3, none⟩ = some (.int .i64 (A (R.getD k 0)).x) ∧ w'.cell? ⟨gr, k * 3 + 1, none⟩ = some (.int .i64 (A (R.getD k 0)).y) ∧ w'.cell? ⟨gr, k * 3 + 2, none⟩ = some (U k)) := fun w' f => by
                  have h3 := (HMr.out.kept f).m.reps
                  rw [← HNR.out] at h3
                  obtain ⟨q1, q2, q3⟩ := repCells_at A U R nR k hk
                  exact ⟨(World.ownsRow.cellAt h3 (k * 3) (by omega)).trans q1, (World.ownsRow.cellAt h3 (k * 3 + 1) (by omega)).trans q2, (World.ownsRow.cellAt h3 (k * 3 + 2) (by omega)).trans q3⟩
                have hkR : k < R.length := by have := HNR.out; omega
                obtain ⟨ua, uc, hU⟩ := own_slice (HMr.out.m.words k hkR)
                obtain ⟨b, off, hao, -⟩ := HCE.out wr HFw.out i h1
                obtain ⟨va, vn, vc, hV⟩ := HSL.out i h1
                have HLC : Hid (∀ w', Fr (fun _ => False) w w' → w'.cell? ⟨b, off + i * 3, none⟩ = some (.int .i64 (A i).x) ∧ w'.cell? ⟨b, off + i * 3 + 1, none⟩ = some (.int .i64 (A i).y) ∧ w'.cell? ⟨b, off + i * 3 + 2, none⟩ = some (.slice va vn vc)) := fun w' f => by
                  obtain ⟨b', off', e, q1, q2, q3⟩ := HCE.out w' f i h1
                  rw [hao] at e
                  cases e
                  rw [hV] at q3
                  exact ⟨q1, q2, q3⟩
                obtain ⟨r, HRr⟩ : ∃ r, Hid (r = R.getD k 0) := ⟨_, rfl⟩
                rw [← HRr.out, hU] at HRC
                rw [← HRr.out] at HRC
                have hrn : r < n := by
                  have h2 := clR_lt (nrA T A) i r (by rw [← HR.out, HRr.out, List.getD_eq_getElem?_getD, List.getElem?_eq_getElem hkR]; exact List.getElem_mem hkR)
                  omega
                have HUN : Hid ((A r).x = (A i).x → (A r).y = (A i).y → ∀ w', Fr (fun _ => False) wr w' → Calls Try.prog 29 #[.agg #[.int .i64 (A r).x, .int .i64 (A r).y, .slice ua (A r).l.length uc], .agg #[.int .i64 (A i).x, .int .i64 (A i).y, .slice va vn vc]] w' fun e w'' => ∃ s, e = .returned (.float .f64 s) ∧ leB s T = nrA T A r i ∧ Fr (fun _ => False) w' w'') := fun hx hy w' f => by
                  have s1 := Seen.of_row ((HMr.out.kept f).m.words k hkR) (by rw [← HRr.out]; have := HLN.out r hrn; omega)
                  rw [← HRr.out, hU] at s1
                  rw [← HRr.out] at s1
                  have s2 := ((HBA.out w' (HFw.out.trans f (fun _ _ h => h))).ok i h1).hv
                  rw [hV] at s2
                  refine (runlike_bp _ _ (HG.out r hrn) (HG.out i h1) hx hy s1 s2).mono ?_
                  rintro e w'' ⟨x, he, hx, hf⟩
                  exact ⟨x, he, hx T, hf⟩
                have HNX : Hid (nrA T A r i = false → ∀ c, c < k + 1 → nrA T A (R.getD c 0) i = false) := fun h c hc => by
                  by_cases e : c = k
                  · subst e; rw [← HRr.out]; exact h
                  · exact HN.out c (by omega)
                have HFD : Hid (nrA T A r i = true → fnd (nrA T A) R i = some k) := fun h => fnd_first hkR (by rw [← HRr.out]; exact h) HN.out
                have HNE : Hid ((A r).x = (A i).x ∧ (A r).y = (A i).y ∨ nrA T A r i = false) := by
                  show _ ∨ _
                  by_cases h : (A r).x = (A i).x ∧ (A r).y = (A i).y
                  · exact Or.inl h
                  · refine Or.inr ?_
                    unfold nrA nrB
                    rw [decide_eq_false h]; rfl
                rw [hU] at *
                rw [← HRr.out] at *
                subst hao
                clear hU hV hrn HRr hkR
                generalize hlr : (A r).l.length = ul at *
                clear hlr
                generalize nrA T A r i = bb at *
                generalize (A r).x = ax at *
                generalize (A r).y = ay at *
                generalize hbx : (A i).x = bx at *
                generalize hby : (A i).y = by_ at *
                clear hbx hby
                obtain ⟨c0, c1, c2⟩ := HRC.out _ (Fr.refl _ _)
                obtain ⟨l0, l1, l2⟩ := HLC.out _ HFw.out
                by_cases hxx : ax = bx
                · by_cases hyy : ay = by_
                  · have x1 : (ax == bx) = true := by rw [beq_iff_eq]; exact hxx
                    have x2 : (ay == by_) = true := by rw [beq_iff_eq]; exact hyy
                    have HUN' : Hid (∀ w', Fr (fun _ => False) wr w' → Calls Try.prog 29 #[.agg #[.int .i64 ax, .int .i64 ay, .slice ua ul uc], .agg #[.int .i64 bx, .int .i64 by_, .slice va vn vc]] w' fun e w'' => ∃ s, e = .returned (.float .f64 s) ∧ leB s T = bb ∧ Fr (fun _ => False) w' w'') := HUN.out hxx hyy
                    clear hxx hyy HUN HNE
                    have HS : Hid (∀ w', Fr (fun _ => False) wr w' → (w'.cell? ⟨bm, 1, none⟩ = some (.slice (some ⟨gr, 0, none⟩) nR cr)) ∧ (w'.cell? ⟨gr, k * 3, none⟩ = some (.int .i64 ax) ∧ w'.cell? ⟨gr, k * 3 + 1, none⟩ = some (.int .i64 ay) ∧ w'.cell? ⟨gr, k * 3 + 2, none⟩ = some (.slice ua ul uc)) ∧ w'.cell? ⟨b, off + i * 3, none⟩ = some (.int .i64 bx) ∧ w'.cell? ⟨b, off + i * 3 + 1, none⟩ = some (.int .i64 by_) ∧ w'.cell? ⟨b, off + i * 3 + 2, none⟩ = some (.slice va vn vc)) := fun w' f => ⟨(two_cells (blkOld f HMr.out.blk)).2.1, HRC.out w' f, HLC.out w' (HFw.out.trans f (fun _ _ h => h))⟩
                    cases bb
                    · have HNX' : Hid (∀ c, c < k + 1 → nrA T A (R.getD c 0) i = false) := HNX.out rfl
                      clear HNX HFD
                      go_upto_region 16 with (fail)
                      go_region_held3 (fun w' => (w'.cell? ⟨bm, 1, none⟩ = some (.slice (some ⟨gr, 0, none⟩) nR cr)) ∧ (w'.cell? ⟨gr, k * 3, none⟩ = some (.int .i64 ax) ∧ w'.cell? ⟨gr, k * 3 + 1, none⟩ = some (.int .i64 ay) ∧ w'.cell? ⟨gr, k * 3 + 2, none⟩ = some (.slice ua ul uc)) ∧ w'.cell? ⟨b, off + i * 3, none⟩ = some (.int .i64 bx) ∧ w'.cell? ⟨b, off + i * 3 + 1, none⟩ = some (.int .i64 by_) ∧ w'.cell? ⟨b, off + i * 3 + 2, none⟩ = some (.slice va vn vc)) (first | exact HS.out _ (Fr.refl _ _).drew | exact HS.out _ hf7'.out) (first | (go_at_call 29; refine (HUN'.out _ (Fr.refl _ _).drew).mono ?_; rintro e w7 ⟨s, rfl, hs, hf7⟩; (have hf7' : Hid (Fr (fun _ => False) wr w7) := (Fr.refl (fun _ => False) wr).drew.trans hf7 (fun _ _ h => h)); (have hol := o_le s T); rw [hs] at hol; clear hf7 hs))
                      have HF7 : Hid (Fr (fun _ => False) wo w7) := HFk.out.trans hf7'.out (fun _ _ h => h)
                      clear c0 c1 c2 l0 l1 l2 z0 z1
                      go_wp2_with fail
                      go_roundg (nR - (k + 1))
                      case measure => omega
                      case rel => exact ⟨k + 1, by omega, by go_num, Or.inl ⟨rfl, HNX'.out⟩, HF7.out⟩
                    · have HFD' : Hid (fnd (nrA T A) R i = some k) := HFD.out rfl
                      clear HNX HFD
                      go_upto_region 16 with (fail)
                      go_region_held3 (fun w' => (w'.cell? ⟨bm, 1, none⟩ = some (.slice (some ⟨gr, 0, none⟩) nR cr)) ∧ (w'.cell? ⟨gr, k * 3, none⟩ = some (.int .i64 ax) ∧ w'.cell? ⟨gr, k * 3 + 1, none⟩ = some (.int .i64 ay) ∧ w'.cell? ⟨gr, k * 3 + 2, none⟩ = some (.slice ua ul uc)) ∧ w'.cell? ⟨b, off + i * 3, none⟩ = some (.int .i64 bx) ∧ w'.cell? ⟨b, off + i * 3 + 1, none⟩ = some (.int .i64 by_) ∧ w'.cell? ⟨b, off + i * 3 + 2, none⟩ = some (.slice va vn vc)) (first | exact HS.out _ (Fr.refl _ _).drew | exact HS.out _ hf7'.out) (first | (go_at_call 29; refine (HUN'.out _ (Fr.refl _ _).drew).mono ?_; rintro e w7 ⟨s, rfl, hs, hf7⟩; (have hf7' : Hid (Fr (fun _ => False) wr w7) := (Fr.refl (fun _ => False) wr).drew.trans hf7 (fun _ _ h => h)); (have hol := o_le s T); rw [hs] at hol; clear hf7 hs))
                      have HF7 : Hid (Fr (fun _ => False) wo w7) := HFk.out.trans hf7'.out (fun _ _ h => h)
                      clear c0 c1 c2 l0 l1 l2 z0 z1
                      go_wp2_with fail
                      go_roundg (nR - (k + 1))
                      case measure => omega
                      case rel => exact ⟨k + 1, by omega, by go_num, Or.inr ⟨k, rfl, hk, HFD'.out⟩, HF7.out⟩
                  · have x1 : (ax == bx) = true := by rw [beq_iff_eq]; exact hxx
                    have x2 : (ay == by_) = false := by rw [beq_eq_false_iff_ne]; exact hyy
                    have HNX' : Hid (∀ c, c < k + 1 → nrA T A (R.getD c 0) i = false) := HNX.out (HNE.out.elim (fun h => absurd h.2 hyy) id)
                    clear hxx hyy HUN HNE HNX HFD
                    go_upto_region 16 with (fail)
                    go_quiet (fail)
                    have HFq : Hid (Fr (fun _ => False) wo (wr.drewN nq)) := HFk.out.drewN _
                    clear c0 c1 c2 l0 l1 l2 z0 z1
                    go_wp2_with fail
                    go_roundg (nR - (k + 1))
                    case measure => omega
                    case rel => exact ⟨k + 1, by omega, by go_num, Or.inl ⟨rfl, HNX'.out⟩, HFq.out⟩
                · have x1 : (ax == bx) = false := by rw [beq_eq_false_iff_ne]; exact hxx
                  have HNX' : Hid (∀ c, c < k + 1 → nrA T A (R.getD c 0) i = false) := HNX.out (HNE.out.elim (fun h => absurd h.1 hxx) id)
                  clear hxx HUN HNE HNX HFD
                  go_upto_region 16 with (fail)
                  go_quiet (fail)
                  have HFq : Hid (Fr (fun _ => False) wo (wr.drewN nq)) := HFk.out.drewN _
                  clear c0 c1 c2 l0 l1 l2 z0 z1
                  go_wp2_with fail
                  go_roundg (nR - (k + 1))
                  case measure => omega
                  case rel => exact ⟨k + 1, by omega, by go_num, Or.inl ⟨rfl, HNX'.out⟩, HFq.out⟩
              · have dk : decide (k < nR) = false := decide_eq_false hk
                have HFN : Hid (fnd (nrA T A) R i = none) := fnd_none (fun c hc => HN.out c (by have := HNR.out; omega))
                clear hk hkq HN
                have HE1 : Hid (clR (nrA T A) (i + 1) = R ++ [i]) := by
                  have h2 := HFN.out
                  rw [HR.out] at h2 ⊢
                  exact clR_succ_none h2
                have HE2 : Hid (clC (nrA T A) (i + 1) = clC (nrA T A) i ++ [nR]) := by
                  have h2 := HFN.out
                  rw [HR.out] at h2
                  have := clC_succ_none h2
                  rw [← HR.out, ← HNR.out] at this
                  exact this
                obtain ⟨b, off, hao, -⟩ := HCE.out wr HFw.out i h1
                obtain ⟨va, vn, vc, hV⟩ := HSL.out i h1
                have HSW : Hid (∀ w', Fr (fun _ => False) w w' → w'.cell? ⟨b, off + i * 3, none⟩ = some (.int .i64 (A i).x) ∧ w'.cell? ⟨b, off + i * 3 + 1, none⟩ = some (.int .i64 (A i).y) ∧ w'.cell? ⟨b, off + i * 3 + 2, none⟩ = some (.slice va vn vc)) := fun w' f => by
                  obtain ⟨b', off', e, q1, q2, q3⟩ := HCE.out w' f i h1
                  rw [hao] at e
                  cases e
                  rw [hV] at q3
                  exact ⟨q1, q2, q3⟩
                have HVN : Hid ((A i).l.length = vn) := by
                  obtain ⟨av, cv2, e, _⟩ := ((HBA.out wr HFw.out).ok i h1).hv
                  rw [hV] at e
                  cases e; rfl
                have HCPY : Hid (∀ w', Fr (fun _ => False) w w' → Calls Try.prog 27 #[.agg #[.int .i64 (A i).x, .int .i64 (A i).y, .slice va vn vc]] w' fun e w'' => ∃ u, e = .returned (.agg #[.int .i64 (A i).x, .int .i64 (A i).y, u]) ∧ w''.ownsRow w'.heap.size 23 1 u vn (wordCells (A i).l) ∧ Fr (fun _ => False) w' w'') := fun w' f => by
                  have s2 := ((HBA.out w' f).ok i h1).hv
                  rw [hV] at s2
                  have := copy_bp (A i).x (A i).y (.slice va vn vc) (A i).l w' s2 (HLN.out i h1)
                  rwa [HVN.out] at this
                have HSTEP : Hid (∀ (w3 w5 : World) (g5 cap5 : Nat) (u : Value) (o : Obj), Fr (fun _ => False) wr w3 → w3.ownsRow wr.heap.size 23 1 u vn (wordCells (A i).l) → w5.ownsRow 0 48 3 (.slice (some ⟨g5, 0, none⟩) (nR + 1) cap5) (nR + 1) (repCells A U R nR ++ [.int .i64 (A i).x, .int .i64 (A i).y, u]) → (w3.alloc o).grownBy w5 (Value.slice ar nR cr).ownBlock → ((Value.slice ar nR cr).ownBlock = some g5 ∨ (w3.alloc o).heap.size ≤ g5) →
                    RMt (w5.setCell ⟨bm, 1, none⟩ (.slice (some ⟨g5, 0, none⟩) (nR + 1) cap5)) w.heap.size bm (.slice ac i cc) (.slice (some ⟨g5, 0, none⟩) (nR + 1) cap5) A (clC (nrA T A) i) (R ++ [i]) (updU U nR u) ∧ Fr (fun k => k = bm ∨ (Value.slice ar nR cr).ownBlock = some k) wr (w5.setCell ⟨bm, 1, none⟩ (.slice (some ⟨g5, 0, none⟩) (nR + 1) cap5)) ∧ w5.heap[bm]? = some (.cells #[.slice ac i cc, .slice ar nR cr] 33 (0, 0))) := fun w3 w5 g5 cap5 u o f3 hu ho hg hl => by
                  have q := HNR.out
                  rw [q] at ho
                  have h3 := HMr.out.rep (i := i) HFw.out.size f3 (by rw [HVN.out]; exact hu) o ho hg hl
                  rw [← q] at h3
                  refine ⟨h3.1, h3.2, ?_⟩
                  rw [hg.block bm (by rw [World.size_alloc]; have := lt_of_block (blkOld f3 HMr.out.blk); omega) (fun e => row_not_cells HMr.out.m.reps HMr.out.blk (by decide) e.symm)]
                  exact blkUp (blkOld f3 HMr.out.blk) o
                have HFw5 : Hid (∀ (w3 w5 : World) (o : Obj), Fr (fun _ => False) wr w3 → (w3.alloc o).grownBy w5 (Value.slice ar nR cr).ownBlock → Fr (fun _ => False) w w5) := fun w3 w5 o f3 hg => ((HFw.out.trans f3 (fun _ _ h => h)).alloc o).grown hg (fun k e hk => by have := (HMr.out.m.reps.lt k e).1; omega)
                have HRO : Hid (∀ w', Fr (fun _ => False) wr w' → w'.ownsRow 0 48 3 (.slice ar nR cr) nR (repCells A U R nR)) := fun w' f => by
                  have h3 := (HMr.out.kept f).m.reps
                  rw [← HNR.out] at h3
                  exact ownsRow_base h3 (fun _ _ => Nat.zero_le _)
                subst hao
                clear hV HVN
                generalize hbx : (A i).x = bx at *
                generalize hby : (A i).y = by_ at *
                clear hbx hby
                have hne : ((nR : Int) == 4096) = false := by rw [beq_eq_false_iff_ne]; omega
                obtain ⟨l0, l1, l2⟩ := HSW.out _ HFw.out
                go_upto_if 87 with (fail)
                go_cut [9] from 88 to 105 (fun u wc => u = .int .i64 (nR : Int) ∧ ∃ rv' U', RMt wc w.heap.size bm (.slice ac i cc) rv' A (clC (nrA T A) i) (R ++ [i]) U' ∧ Fr (fun k => k = bm ∨ (Value.slice ar nR cr).ownBlock = some k) wr wc)
                case first =>
                  go_upto_region 22 with (fail)
                  refine wp_region_held_drew (S := (fun w' => w'.cell? ⟨b, off + i * 3, none⟩ = some (.int .i64 bx) ∧ w'.cell? ⟨b, off + i * 3 + 1, none⟩ = some (.int .i64 by_) ∧ w'.cell? ⟨b, off + i * 3 + 2, none⟩ = some (.slice va vn vc))) (by kernel_rfl) (HSW.out _ HFw.out.drew) (fun hHeld => ?_)
                  refine wpAnyH_take (i := 0) (oi := _) (v := ?vv0x1) rfl (by kernel_rfl) (by kernel_rfl) (by kernel_rfl) (fun _ _ _ h => h) (Or.inl ⟨by kernel_rfl, ?hy0x1⟩) (by assumption) ?_
                  case hy0x1 => (intro w hSw; (try dsimp only at hSw); obtain ⟨s0, s1, s2⟩ := hSw; go_simp; all_goals (with_reducible rfl))
                  (try simp only [Act.put, List.setIfInBounds_toArray, List.set_cons_zero, List.set_cons_succ])
                  refine wpAnyH_take (i := 2) (oi := _) (v := ?vv2x2) rfl (by kernel_rfl) (by kernel_rfl) (by kernel_rfl) (fun _ _ _ h => h) (Or.inl ⟨by kernel_rfl, ?hy2x2⟩) (by assumption) ?_
                  case hy2x2 => (intro w hSw; (try dsimp only at hSw); obtain ⟨s0, s1, s2⟩ := hSw; go_simp; all_goals (with_reducible rfl))
                  (try simp only [Act.put, List.setIfInBounds_toArray, List.set_cons_zero, List.set_cons_succ])
                  refine wpAnyH_take (i := 3) (oi := _) (v := ?vv3x3) rfl (by kernel_rfl) (by kernel_rfl) (by kernel_rfl) (fun _ _ _ h => h) (Or.inl ⟨by kernel_rfl, ?hy3x3⟩) (by assumption) ?_
                  case hy3x3 => (intro w hSw; (try dsimp only at hSw); obtain ⟨s0, s1, s2⟩ := hSw; go_simp; all_goals (with_reducible rfl))
                  (try simp only [Act.put, List.setIfInBounds_toArray, List.set_cons_zero, List.set_cons_succ])
                  refine wpAnyH_take (i := 4) (oi := _) (v := ?vv4x4) rfl (by kernel_rfl) (by kernel_rfl) (by kernel_rfl) (fun _ _ _ h => h) (Or.inl ⟨by kernel_rfl, ?hy4x4⟩) (by assumption) ?_
                  case hy4x4 => (intro w hSw; (try dsimp only at hSw); obtain ⟨s0, s1, s2⟩ := hSw; go_simp; all_goals (with_reducible rfl))
                  (try simp only [Act.put, List.setIfInBounds_toArray, List.set_cons_zero, List.set_cons_succ])
                  refine wpAnyH_take (i := 5) (oi := _) (v := ?vv5x5) rfl (by kernel_rfl) (by kernel_rfl) (by kernel_rfl) (fun _ _ _ h => h) (Or.inl ⟨by kernel_rfl, ?hy5x5⟩) (by assumption) ?_
                  case hy5x5 => (intro w hSw; (try dsimp only at hSw); obtain ⟨s0, s1, s2⟩ := hSw; go_simp; all_goals (with_reducible rfl))
                  (try simp only [Act.put, List.setIfInBounds_toArray, List.set_cons_zero, List.set_cons_succ])
                  refine wpAnyH_ready (rs := [1, 6]) (by kernel_rfl) (by simp) ?_
                  refine (AllReadyH.cons (o := _) rfl (fun K hK => ?_) (AllReadyH.cons (o := _) rfl (fun K hK => ?_) AllReadyH.nil))
                  · go_simp
                    refine hK.out _ _ (HSW.out _ HFw.out.drew) (fun hHeld => ?_)
                    clear hK K
                    (try simp only [Act.put, List.setIfInBounds_toArray, List.set_cons_zero, List.set_cons_succ])
                    refine wpAnyH_ready (rs := [6]) (by kernel_rfl) (by simp) ?_
                    refine (AllReadyH.cons (o := _) rfl (fun K hK => ?_) AllReadyH.nil)
                    go_simp
                    refine (HCPY.out _ (HFw.out.drew)).mono ?_
                    rintro e w3 ⟨uv, rfl, hou, hf3⟩
                    have hu3 : Hid (w3.ownsRow wr.heap.size 23 1 uv vn (wordCells (A i).l)) := hou
                    have hf3' : Hid (Fr (fun _ => False) wr w3) := (Fr.refl (fun _ => False) wr).drew.trans hf3 (fun _ _ h => h)
                    have e1 : w3.cell? ⟨bm, 1, none⟩ = some (.slice ar nR cr) := (two_cells (blkOld hf3'.out HMr.out.blk)).2.1
                    have e1a : ∀ o, (w3.alloc o).cell? ⟨bm, 1, none⟩ = some (.slice ar nR cr) := fun o => (two_cells (blkUp (blkOld hf3'.out HMr.out.blk) o)).2.1
                    obtain ⟨au, cu, hus⟩ : ∃ au cu, uv = .slice au vn cu := own_slice hou
                    subst hus
                    clear hou hf3
                    go_simp
                    refine hK.out _ _ (HSW.out _ (HFw.out.trans hf3'.out (fun _ _ h => h))) (fun hHeld => ?_)
                    clear hK K
                    (try simp only [Act.put, List.setIfInBounds_toArray, List.set_cons_zero, List.set_cons_succ])
                    refine wpAnyH_ready (rs := [7]) (by kernel_rfl) (by simp) ?_
                    refine (AllReadyH.cons (o := _) rfl (fun K hK => ?_) AllReadyH.nil)
                    go_simp
                    refine hK.out _ _ (HSW.out _ ((HFw.out.trans hf3'.out (fun _ _ h => h)).alloc _)) (fun hHeld => ?_)
                    clear hK K
                    (try simp only [Act.put, List.setIfInBounds_toArray, List.set_cons_zero, List.set_cons_succ])
                    refine wpAnyH_ready (rs := [8]) (by kernel_rfl) (by simp) ?_
                    refine (AllReadyH.cons (o := _) rfl (fun K hK => ?_) AllReadyH.nil)
                    refine step_append_lies _ (by rfl) _ _ _ (by rfl) 0 48 i0 (.agg #[.int .i64 0, .int .i64 0, .slice none 0 0]) 3 40 Try.underlying22 hi hz0 hz1 hz2 rfl (by decide) (.slice ar nR cr) nR (repCells A U R nR) (by rfl) (HRO.out _ (hf3'.out.alloc _)) ⟨w3.heap.size, 0, none⟩ 1 1 [.int .i64 bx, .int .i64 by_, .slice au vn cu] (by rfl) rfl (cell_three_new _ _ _ _ _) (by intro u hu; simp at hu; rcases hu with rfl | rfl | rfl <;> rfl) (by decide) (by unfold maxLen; omega) (by omega) (Nat.zero_le _) (w3.heap.size + 1) (World.size_alloc _ _) ?_
                    intro g5 cap5 w5 hown5 hgrow5 hat5 hlt5
                    obtain ⟨s5, t5, u5⟩ := HSTEP.out w3 w5 g5 cap5 (.slice au vn cu) _ hf3'.out hu3.out hown5 hgrow5 (by rw [World.size_alloc]; rcases hat5 with h | h; exact Or.inl h; exact Or.inr (by omega))
                    have hst : Hid (RMt (w5.setCell ⟨bm, 1, none⟩ (.slice (some ⟨g5, 0, none⟩) (nR + 1) cap5)) w.heap.size bm (.slice ac i cc) (.slice (some ⟨g5, 0, none⟩) (nR + 1) cap5) A (clC (nrA T A) i) (R ++ [i]) (updU U nR (.slice au vn cu)) ∧ Fr (fun k => k = bm ∨ (Value.slice ar nR cr).ownBlock = some k) wr (w5.setCell ⟨bm, 1, none⟩ (.slice (some ⟨g5, 0, none⟩) (nR + 1) cap5))) := ⟨s5, t5⟩
                    have hfw5 : Hid (Fr (fun _ => False) w w5) := HFw5.out w3 w5 _ hf3'.out hgrow5
                    have hfw6 : Hid (Fr (fun _ => False) w (w5.setCell ⟨bm, 1, none⟩ (.slice (some ⟨g5, 0, none⟩) (nR + 1) cap5))) := hfw5.out.setCell (p := ⟨bm, 1, none⟩) (fun h => by have h2 : bm < w.heap.size := h; have := HBM.out; omega) _
                    obtain ⟨m0, m1, m3⟩ := two_cells u5
                    have m4 := m3 1
                    clear hown5 hgrow5 hat5 hlt5 m3 s5 t5 u5
                    refine hK.out _ _ (HSW.out _ hfw5.out) (fun hHeld => ?_)
                    clear hK K
                    (try simp only [Act.put, List.setIfInBounds_toArray, List.set_cons_zero, List.set_cons_succ])
                    refine wpAnyH_take (i := 9) (oi := _) (v := ?vv9x6) rfl (by kernel_rfl) (by kernel_rfl) (by kernel_rfl) (fun _ _ _ h => h) (Or.inl ⟨by kernel_rfl, ?hy9x6⟩) (by assumption) ?_
                    case hy9x6 => (intro w hSw; (try dsimp only at hSw); obtain ⟨s0, s1, s2⟩ := hSw; go_simp; all_goals (with_reducible rfl))
                    (try simp only [Act.put, List.setIfInBounds_toArray, List.set_cons_zero, List.set_cons_succ])
                    refine wpAnyH_ready (rs := [10]) (by kernel_rfl) (by simp) ?_
                    refine (AllReadyH.cons (o := _) rfl (fun K hK => ?_) AllReadyH.nil)
                    go_simp
                    refine hK.out _ _ (HSW.out _ hfw6.out) (fun hHeld => ?_)
                    clear hK K
                    (try simp only [Act.put, List.setIfInBounds_toArray, List.set_cons_zero, List.set_cons_succ])
                    refine wpAnyH_done (by kernel_rfl) ?_ _
                    go_wp2_with fail
                    go_meet
                    exact ⟨rfl, _, _, hst.out.1, hst.out.2⟩
                  · go_simp
                    refine (HCPY.out _ (HFw.out.drew)).mono ?_
                    rintro e w3 ⟨uv, rfl, hou, hf3⟩
                    have hu3 : Hid (w3.ownsRow wr.heap.size 23 1 uv vn (wordCells (A i).l)) := hou
                    have hf3' : Hid (Fr (fun _ => False) wr w3) := (Fr.refl (fun _ => False) wr).drew.trans hf3 (fun _ _ h => h)
                    have e1 : w3.cell? ⟨bm, 1, none⟩ = some (.slice ar nR cr) := (two_cells (blkOld hf3'.out HMr.out.blk)).2.1
                    have e1a : ∀ o, (w3.alloc o).cell? ⟨bm, 1, none⟩ = some (.slice ar nR cr) := fun o => (two_cells (blkUp (blkOld hf3'.out HMr.out.blk) o)).2.1
                    obtain ⟨au, cu, hus⟩ : ∃ au cu, uv = .slice au vn cu := own_slice hou
                    subst hus
                    clear hou hf3
                    go_simp
                    refine hK.out _ _ (HSW.out _ (HFw.out.trans hf3'.out (fun _ _ h => h))) (fun hHeld => ?_)
                    clear hK K
                    (try simp only [Act.put, List.setIfInBounds_toArray, List.set_cons_zero, List.set_cons_succ])
                    refine wpAnyH_ready (rs := [1, 7]) (by kernel_rfl) (by simp) ?_
                    refine (AllReadyH.cons (o := _) rfl (fun K hK => ?_) (AllReadyH.cons (o := _) rfl (fun K hK => ?_) AllReadyH.nil))
                    · go_simp
                      refine hK.out _ _ (HSW.out _ (HFw.out.trans hf3'.out (fun _ _ h => h))) (fun hHeld => ?_)
                      clear hK K
                      (try simp only [Act.put, List.setIfInBounds_toArray, List.set_cons_zero, List.set_cons_succ])
                      refine wpAnyH_ready (rs := [7]) (by kernel_rfl) (by simp) ?_
                      refine (AllReadyH.cons (o := _) rfl (fun K hK => ?_) AllReadyH.nil)
                      go_simp
                      refine hK.out _ _ (HSW.out _ ((HFw.out.trans hf3'.out (fun _ _ h => h)).alloc _)) (fun hHeld => ?_)
                      clear hK K
                      (try simp only [Act.put, List.setIfInBounds_toArray, List.set_cons_zero, List.set_cons_succ])
                      refine wpAnyH_ready (rs := [8]) (by kernel_rfl) (by simp) ?_
                      refine (AllReadyH.cons (o := _) rfl (fun K hK => ?_) AllReadyH.nil)
                      refine step_append_lies _ (by rfl) _ _ _ (by rfl) 0 48 i0 (.agg #[.int .i64 0, .int .i64 0, .slice none 0 0]) 3 40 Try.underlying22 hi hz0 hz1 hz2 rfl (by decide) (.slice ar nR cr) nR (repCells A U R nR) (by rfl) (HRO.out _ (hf3'.out.alloc _)) ⟨w3.heap.size, 0, none⟩ 1 1 [.int .i64 bx, .int .i64 by_, .slice au vn cu] (by rfl) rfl (cell_three_new _ _ _ _ _) (by intro u hu; simp at hu; rcases hu with rfl | rfl | rfl <;> rfl) (by decide) (by unfold maxLen; omega) (by omega) (Nat.zero_le _) (w3.heap.size + 1) (World.size_alloc _ _) ?_
                      intro g5 cap5 w5 hown5 hgrow5 hat5 hlt5
                      obtain ⟨s5, t5, u5⟩ := HSTEP.out w3 w5 g5 cap5 (.slice au vn cu) _ hf3'.out hu3.out hown5 hgrow5 (by rw [World.size_alloc]; rcases hat5 with h | h; exact Or.inl h; exact Or.inr (by omega))
                      have hst : Hid (RMt (w5.setCell ⟨bm, 1, none⟩ (.slice (some ⟨g5, 0, none⟩) (nR + 1) cap5)) w.heap.size bm (.slice ac i cc) (.slice (some ⟨g5, 0, none⟩) (nR + 1) cap5) A (clC (nrA T A) i) (R ++ [i]) (updU U nR (.slice au vn cu)) ∧ Fr (fun k => k = bm ∨ (Value.slice ar nR cr).ownBlock = some k) wr (w5.setCell ⟨bm, 1, none⟩ (.slice (some ⟨g5, 0, none⟩) (nR + 1) cap5))) := ⟨s5, t5⟩
                      have hfw5 : Hid (Fr (fun _ => False) w w5) := HFw5.out w3 w5 _ hf3'.out hgrow5
                      have hfw6 : Hid (Fr (fun _ => False) w (w5.setCell ⟨bm, 1, none⟩ (.slice (some ⟨g5, 0, none⟩) (nR + 1) cap5))) := hfw5.out.setCell (p := ⟨bm, 1, none⟩) (fun h => by have h2 : bm < w.heap.size := h; have := HBM.out; omega) _
                      obtain ⟨m0, m1, m3⟩ := two_cells u5
                      have m4 := m3 1
                      clear hown5 hgrow5 hat5 hlt5 m3 s5 t5 u5
                      refine hK.out _ _ (HSW.out _ hfw5.out) (fun hHeld => ?_)
                      clear hK K
                      (try simp only [Act.put, List.setIfInBounds_toArray, List.set_cons_zero, List.set_cons_succ])
                      refine wpAnyH_take (i := 9) (oi := _) (v := ?vv9x7) rfl (by kernel_rfl) (by kernel_rfl) (by kernel_rfl) (fun _ _ _ h => h) (Or.inl ⟨by kernel_rfl, ?hy9x7⟩) (by assumption) ?_
                      case hy9x7 => (intro w hSw; (try dsimp only at hSw); obtain ⟨s0, s1, s2⟩ := hSw; go_simp; all_goals (with_reducible rfl))
                      (try simp only [Act.put, List.setIfInBounds_toArray, List.set_cons_zero, List.set_cons_succ])
                      refine wpAnyH_ready (rs := [10]) (by kernel_rfl) (by simp) ?_
                      refine (AllReadyH.cons (o := _) rfl (fun K hK => ?_) AllReadyH.nil)
                      go_simp
                      refine hK.out _ _ (HSW.out _ hfw6.out) (fun hHeld => ?_)
                      clear hK K
                      (try simp only [Act.put, List.setIfInBounds_toArray, List.set_cons_zero, List.set_cons_succ])
                      refine wpAnyH_done (by kernel_rfl) ?_ _
                      go_wp2_with fail
                      go_meet
                      exact ⟨rfl, _, _, hst.out.1, hst.out.2⟩
                    · go_simp
                      refine hK.out _ _ (HSW.out _ ((HFw.out.trans hf3'.out (fun _ _ h => h)).alloc _)) (fun hHeld => ?_)
                      clear hK K
                      (try simp only [Act.put, List.setIfInBounds_toArray, List.set_cons_zero, List.set_cons_succ])
                      refine wpAnyH_ready (rs := [1]) (by kernel_rfl) (by simp) ?_
                      refine (AllReadyH.cons (o := _) rfl (fun K hK => ?_) AllReadyH.nil)
                      go_simp
                      refine hK.out _ _ (HSW.out _ ((HFw.out.trans hf3'.out (fun _ _ h => h)).alloc _)) (fun hHeld => ?_)
                      clear hK K
                      (try simp only [Act.put, List.setIfInBounds_toArray, List.set_cons_zero, List.set_cons_succ])
                      refine wpAnyH_ready (rs := [8]) (by kernel_rfl) (by simp) ?_
                      refine (AllReadyH.cons (o := _) rfl (fun K hK => ?_) AllReadyH.nil)
                      refine step_append_lies _ (by rfl) _ _ _ (by rfl) 0 48 i0 (.agg #[.int .i64 0, .int .i64 0, .slice none 0 0]) 3 40 Try.underlying22 hi hz0 hz1 hz2 rfl (by decide) (.slice ar nR cr) nR (repCells A U R nR) (by rfl) (HRO.out _ (hf3'.out.alloc _)) ⟨w3.heap.size, 0, none⟩ 1 1 [.int .i64 bx, .int .i64 by_, .slice au vn cu] (by rfl) rfl (cell_three_new _ _ _ _ _) (by intro u hu; simp at hu; rcases hu with rfl | rfl | rfl <;> rfl) (by decide) (by unfold maxLen; omega) (by omega) (Nat.zero_le _) (w3.heap.size + 1) (World.size_alloc _ _) ?_
                      intro g5 cap5 w5 hown5 hgrow5 hat5 hlt5
                      obtain ⟨s5, t5, u5⟩ := HSTEP.out w3 w5 g5 cap5 (.slice au vn cu) _ hf3'.out hu3.out hown5 hgrow5 (by rw [World.size_alloc]; rcases hat5 with h | h; exact Or.inl h; exact Or.inr (by omega))
                      have hst : Hid (RMt (w5.setCell ⟨bm, 1, none⟩ (.slice (some ⟨g5, 0, none⟩) (nR + 1) cap5)) w.heap.size bm (.slice ac i cc) (.slice (some ⟨g5, 0, none⟩) (nR + 1) cap5) A (clC (nrA T A) i) (R ++ [i]) (updU U nR (.slice au vn cu)) ∧ Fr (fun k => k = bm ∨ (Value.slice ar nR cr).ownBlock = some k) wr (w5.setCell ⟨bm, 1, none⟩ (.slice (some ⟨g5, 0, none⟩) (nR + 1) cap5))) := ⟨s5, t5⟩
                      have hfw5 : Hid (Fr (fun _ => False) w w5) := HFw5.out w3 w5 _ hf3'.out hgrow5
                      have hfw6 : Hid (Fr (fun _ => False) w (w5.setCell ⟨bm, 1, none⟩ (.slice (some ⟨g5, 0, none⟩) (nR + 1) cap5))) := hfw5.out.setCell (p := ⟨bm, 1, none⟩) (fun h => by have h2 : bm < w.heap.size := h; have := HBM.out; omega) _
                      obtain ⟨m0, m1, m3⟩ := two_cells u5
                      have m4 := m3 1
                      clear hown5 hgrow5 hat5 hlt5 m3 s5 t5 u5
                      refine hK.out _ _ (HSW.out _ hfw5.out) (fun hHeld => ?_)
                      clear hK K
                      (try simp only [Act.put, List.setIfInBounds_toArray, List.set_cons_zero, List.set_cons_succ])
                      refine wpAnyH_take (i := 9) (oi := _) (v := ?vv9x8) rfl (by kernel_rfl) (by kernel_rfl) (by kernel_rfl) (fun _ _ _ h => h) (Or.inl ⟨by kernel_rfl, ?hy9x8⟩) (by assumption) ?_
                      case hy9x8 => (intro w hSw; (try dsimp only at hSw); obtain ⟨s0, s1, s2⟩ := hSw; go_simp; all_goals (with_reducible rfl))
                      (try simp only [Act.put, List.setIfInBounds_toArray, List.set_cons_zero, List.set_cons_succ])
                      refine wpAnyH_ready (rs := [10]) (by kernel_rfl) (by simp) ?_
                      refine (AllReadyH.cons (o := _) rfl (fun K hK => ?_) AllReadyH.nil)
                      go_simp
                      refine hK.out _ _ (HSW.out _ hfw6.out) (fun hHeld => ?_)
                      clear hK K
                      (try simp only [Act.put, List.setIfInBounds_toArray, List.set_cons_zero, List.set_cons_succ])
                      refine wpAnyH_done (by kernel_rfl) ?_ _
                      go_wp2_with fail
                      go_meet
                      exact ⟨rfl, _, _, hst.out.1, hst.out.2⟩
                case rest =>
                  obtain ⟨rfl, rv', U', hR', hfc⟩ := hcut
                  obtain ⟨ar', cr', hrv'⟩ := own_slice hR'.m.reps
                  generalize hll : (R ++ [i]).length = nR' at hrv'
                  clear hll
                  subst hrv'
                  have HX : Hid (RMt wc w.heap.size bm (.slice ac i cc) (.slice ar' nR' cr') A (clC (nrA T A) i) (R ++ [i]) U') := hR'
                  have HFX : Hid (Fr (fun _ => False) w wc) := HFw.out.trans hfc (fun k hk h => by
                    rcases h with h | h
                    · have := HBM.out; omega
                    · have := (HMr.out.m.reps.lt k h).1; omega)
                  have HRX : Hid (wc.heap[w.heap.size]? = some (.cells #[.slice none 0 0, .slice none 0 0] 33 (0, 0))) := by
                    show _ = _
                    rw [hfc.block _ (lt_of_block HRBr.out) (fun h => by
                      rcases h with h | h
                      · have := HBM.out; omega
                      · exact row_not_cells HMr.out.m.reps HRBr.out (by decide) h)]
                    exact HRBr.out
                  clear hR' hfc HSTEP HFw5 HRO l0 l1 l2 hne z0 z1 HSW HCPY dk
                  obtain ⟨p0, p1, pf⟩ := two_cells HX.out.blk
                  have pf0 := pf 0
                  clear pf
                  have HCX : Hid (wc.ownsRow 0 3 1 (.slice ac i cc) i (intCells (clC (nrA T A) i))) := by
                    have := HX.out.m.cls
                    rw [length_clC] at this
                    exact ownsRow_base this (fun _ _ => Nat.zero_le _)
                  have HST : Hid (∀ (w3 : World) (g cap : Nat) (o : Obj), w3.ownsRow 0 3 1 (.slice (some ⟨g, 0, none⟩) (i + 1) cap) (i + 1) (intCells (clC (nrA T A) i) ++ [.int .i64 (nR : Int)]) → (wc.alloc o).grownBy w3 (Value.slice ac i cc).ownBlock → ((Value.slice ac i cc).ownBlock = some g ∨ (wc.alloc o).heap.size ≤ g) →
                      RMt (w3.setCell ⟨bm, 0, none⟩ (.slice (some ⟨g, 0, none⟩) (i + 1) cap)) w.heap.size bm (.slice (some ⟨g, 0, none⟩) (i + 1) cap) (.slice ar' nR' cr') A (clC (nrA T A) (i + 1)) (clR (nrA T A) (i + 1)) U' ∧ Fr (fun k => k = bm ∨ (Value.slice ac i cc).ownBlock = some k) wc (w3.setCell ⟨bm, 0, none⟩ (.slice (some ⟨g, 0, none⟩) (i + 1) cap)) ∧ w3.heap[bm]? = some (.cells #[.slice ac i cc, (.slice ar' nR' cr')] 33 (0, 0))) := fun w3 g cap o ho hg hl => by
                    have hl2 : (clC (nrA T A) i).length = i := length_clC _ _
                    have := HX.out.cl (w3 := w3) (c := nR) (g := g) (cap := cap) HFX.out.size o (by rw [hl2]; exact ho) hg hl
                    rw [hl2] at this
                    rw [HE1.out, HE2.out]
                    exact this
                  go_wp2_with (first | (at_builtin; refine wpList_append_row _ rfl _ _ 31 rfl 3 j0 (.int .i64 0) 1 8 Try.underlying31 hj hy0 hy1 hy2 rfl (by decide) (.slice ac i cc) i (intCells (clC (nrA T A) i)) rfl (HCX.out.alloc _) ⟨wc.heap.size, 0, none⟩ 1 1 [.int .i64 (nR : Int)] rfl rfl ?c1 ?c2 ?c3 ?c4 (by decide) ?_))
                  case c1 => exact cell_one_new wc _ _
                  case c2 =>
                    intro u hu
                    simp only [List.mem_cons, List.not_mem_nil, or_false] at hu
                    subst hu; rfl
                  case c3 => unfold maxLen; omega
                  case c4 => omega
                  intro g' cap' w' ho hg hor hc' hm'
                  obtain ⟨s1, s2, s3⟩ := HST.out w' g' cap' _ ho hg (by rw [World.size_alloc]; exact hor)
                  have HM' : Hid (RMt (w'.setCell ⟨bm, 0, none⟩ (.slice (some ⟨g', 0, none⟩) (i + 1) cap')) w.heap.size bm (.slice (some ⟨g', 0, none⟩) (i + 1) cap') (.slice ar' nR' cr') A (clC (nrA T A) (i + 1)) (clR (nrA T A) (i + 1)) U') := s1
                  have HFz : Hid (Fr (fun _ => False) w (w'.setCell ⟨bm, 0, none⟩ (.slice (some ⟨g', 0, none⟩) (i + 1) cap'))) := HFX.out.trans s2 (fun k hk h => by
                    have := HBM.out
                    rcases h with h | h
                    · omega
                    · have := (HX.out.m.cls.lt k h).1; omega)
                  have HRB' : Hid ((w'.setCell ⟨bm, 0, none⟩ (.slice (some ⟨g', 0, none⟩) (i + 1) cap')).heap[w.heap.size]? = some (.cells #[.slice none 0 0, .slice none 0 0] 33 (0, 0))) := by
                    show _ = _
                    rw [s2.block _ (lt_of_block HRX.out) (fun h => by
                      rcases h with h | h
                      · have := HBM.out; omega
                      · exact row_not_cells HX.out.m.cls HRX.out (by decide) h)]
                    exact HRX.out
                  obtain ⟨m0, m1, mf⟩ := two_cells s3
                  have mf0 := mf 0
                  clear ho hg hor hc' hm' s1 s2 s3 mf HST HCX p0 p1 pf0
                  go_wp2_with fail
                  go_roundg (n - (i + 1))
                  case measure => omega
                  case rel => exact ⟨i + 1, _, _, _, by omega, by go_num, HM'.out, HRB'.out, HFz.out⟩
            · have HE1 : Hid (clR (nrA T A) (i + 1) = R) := by
                have h2 := HFd.out
                rw [HR.out] at h2 ⊢
                exact clR_succ_some h2
              have HE2 : Hid (clC (nrA T A) (i + 1) = clC (nrA T A) i ++ [c]) := by
                have h2 := HFd.out
                rw [HR.out] at h2
                exact clC_succ_some h2
              have dc : decide ((c : Int) < 0) = false := decide_eq_false (by omega)
              clear z0 z1
              by_cases hk : k < nR
              · have dk : decide (k < nR) = true := decide_eq_true hk
                clear hk hkq
                obtain ⟨p0, p1, pf⟩ := two_cells HMr.out.blk
                have pf0 := pf 0
                clear pf
                have HCX : Hid (wr.ownsRow 0 3 1 (.slice ac i cc) i (intCells (clC (nrA T A) i))) := by
                  have := HMr.out.m.cls
                  rw [length_clC] at this
                  exact ownsRow_base this (fun _ _ => Nat.zero_le _)
                have HST : Hid (∀ (w3 : World) (g cap : Nat) (o : Obj), w3.ownsRow 0 3 1 (.slice (some ⟨g, 0, none⟩) (i + 1) cap) (i + 1) (intCells (clC (nrA T A) i) ++ [.int .i64 (c : Int)]) → (wr.alloc o).grownBy w3 (Value.slice ac i cc).ownBlock → ((Value.slice ac i cc).ownBlock = some g ∨ (wr.alloc o).heap.size ≤ g) →
                    RMt (w3.setCell ⟨bm, 0, none⟩ (.slice (some ⟨g, 0, none⟩) (i + 1) cap)) w.heap.size bm (.slice (some ⟨g, 0, none⟩) (i + 1) cap) (.slice ar nR cr) A (clC (nrA T A) (i + 1)) (clR (nrA T A) (i + 1)) U ∧ Fr (fun k => k = bm ∨ (Value.slice ac i cc).ownBlock = some k) wr (w3.setCell ⟨bm, 0, none⟩ (.slice (some ⟨g, 0, none⟩) (i + 1) cap)) ∧ w3.heap[bm]? = some (.cells #[.slice ac i cc, (.slice ar nR cr)] 33 (0, 0))) := fun w3 g cap o ho hg hl => by
                  have hl2 : (clC (nrA T A) i).length = i := length_clC _ _
                  have := HMr.out.cl (w3 := w3) (c := c) (g := g) (cap := cap) HFw.out.size o (by rw [hl2]; exact ho) hg hl
                  rw [hl2] at this
                  rw [HE1.out, HE2.out]
                  exact this
                go_wp2_with (first | (at_builtin; refine wpList_append_row _ rfl _ _ 31 rfl 3 j0 (.int .i64 0) 1 8 Try.underlying31 hj hy0 hy1 hy2 rfl (by decide) (.slice ac i cc) i (intCells (clC (nrA T A) i)) rfl (HCX.out.alloc _) ⟨wr.heap.size, 0, none⟩ 1 1 [.int .i64 (c : Int)] rfl rfl ?c1 ?c2 ?c3 ?c4 (by decide) ?_))
                case c1 => exact cell_one_new wr _ _
                case c2 =>
                  intro u hu
                  simp only [List.mem_cons, List.not_mem_nil, or_false] at hu
                  subst hu; rfl
                case c3 => unfold maxLen; omega
                case c4 => omega
                intro g' cap' w' ho hg hor hc' hm'
                obtain ⟨s1, s2, s3⟩ := HST.out w' g' cap' _ ho hg (by rw [World.size_alloc]; exact hor)
                have HM' : Hid (RMt (w'.setCell ⟨bm, 0, none⟩ (.slice (some ⟨g', 0, none⟩) (i + 1) cap')) w.heap.size bm (.slice (some ⟨g', 0, none⟩) (i + 1) cap') (.slice ar nR cr) A (clC (nrA T A) (i + 1)) (clR (nrA T A) (i + 1)) U) := s1
                have HFz : Hid (Fr (fun _ => False) w (w'.setCell ⟨bm, 0, none⟩ (.slice (some ⟨g', 0, none⟩) (i + 1) cap'))) := HFw.out.trans s2 (fun k hk h => by
                  have := HBM.out
                  rcases h with h | h
                  · omega
                  · have := (HMr.out.m.cls.lt k h).1; omega)
                have HRB' : Hid ((w'.setCell ⟨bm, 0, none⟩ (.slice (some ⟨g', 0, none⟩) (i + 1) cap')).heap[w.heap.size]? = some (.cells #[.slice none 0 0, .slice none 0 0] 33 (0, 0))) := by
                  show _ = _
                  rw [s2.block _ (lt_of_block HRBr.out) (fun h => by
                    rcases h with h | h
                    · have := HBM.out; omega
                    · exact row_not_cells HMr.out.m.cls HRBr.out (by decide) h)]
                  exact HRBr.out
                obtain ⟨m0, m1, mf⟩ := two_cells s3
                have mf0 := mf 0
                clear ho hg hor hc' hm' s1 s2 s3 mf HST HCX p0 p1 pf0
                go_wp2_with fail
                go_roundg (n - (i + 1))
                case measure => omega
                case rel => exact ⟨i + 1, _, _, _, by omega, by go_num, HM'.out, HRB'.out, HFz.out⟩
              · have dk : decide (k < nR) = false := decide_eq_false hk
                clear hk hkq
                obtain ⟨p0, p1, pf⟩ := two_cells HMr.out.blk
                have pf0 := pf 0
                clear pf
                have HCX : Hid (wr.ownsRow 0 3 1 (.slice ac i cc) i (intCells (clC (nrA T A) i))) := by
                  have := HMr.out.m.cls
                  rw [length_clC] at this
                  exact ownsRow_base this (fun _ _ => Nat.zero_le _)
                have HST : Hid (∀ (w3 : World) (g cap : Nat) (o : Obj), w3.ownsRow 0 3 1 (.slice (some ⟨g, 0, none⟩) (i + 1) cap) (i + 1) (intCells (clC (nrA T A) i) ++ [.int .i64 (c : Int)]) → (wr.alloc o).grownBy w3 (Value.slice ac i cc).ownBlock → ((Value.slice ac i cc).ownBlock = some g ∨ (wr.alloc o).heap.size ≤ g) →
                    RMt (w3.setCell ⟨bm, 0, none⟩ (.slice (some ⟨g, 0, none⟩) (i + 1) cap)) w.heap.size bm (.slice (some ⟨g, 0, none⟩) (i + 1) cap) (.slice ar nR cr) A (clC (nrA T A) (i + 1)) (clR (nrA T A) (i + 1)) U ∧ Fr (fun k => k = bm ∨ (Value.slice ac i cc).ownBlock = some k) wr (w3.setCell ⟨bm, 0, none⟩ (.slice (some ⟨g, 0, none⟩) (i + 1) cap)) ∧ w3.heap[bm]? = some (.cells #[.slice ac i cc, (.slice ar nR cr)] 33 (0, 0))) := fun w3 g cap o ho hg hl => by
                  have hl2 : (clC (nrA T A) i).length = i := length_clC _ _
                  have := HMr.out.cl (w3 := w3) (c := c) (g := g) (cap := cap) HFw.out.size o (by rw [hl2]; exact ho) hg hl
                  rw [hl2] at this
                  rw [HE1.out, HE2.out]
                  exact this
                go_wp2_with (first | (at_builtin; refine wpList_append_row _ rfl _ _ 31 rfl 3 j0 (.int .i64 0) 1 8 Try.underlying31 hj hy0 hy1 hy2 rfl (by decide) (.slice ac i cc) i (intCells (clC (nrA T A) i)) rfl (HCX.out.alloc _) ⟨wr.heap.size, 0, none⟩ 1 1 [.int .i64 (c : Int)] rfl rfl ?c1 ?c2 ?c3 ?c4 (by decide) ?_))
                case c1 => exact cell_one_new wr _ _
                case c2 =>
                  intro u hu
                  simp only [List.mem_cons, List.not_mem_nil, or_false] at hu
                  subst hu; rfl
                case c3 => unfold maxLen; omega
                case c4 => omega
                intro g' cap' w' ho hg hor hc' hm'
                obtain ⟨s1, s2, s3⟩ := HST.out w' g' cap' _ ho hg (by rw [World.size_alloc]; exact hor)
                have HM' : Hid (RMt (w'.setCell ⟨bm, 0, none⟩ (.slice (some ⟨g', 0, none⟩) (i + 1) cap')) w.heap.size bm (.slice (some ⟨g', 0, none⟩) (i + 1) cap') (.slice ar nR cr) A (clC (nrA T A) (i + 1)) (clR (nrA T A) (i + 1)) U) := s1
                have HFz : Hid (Fr (fun _ => False) w (w'.setCell ⟨bm, 0, none⟩ (.slice (some ⟨g', 0, none⟩) (i + 1) cap'))) := HFw.out.trans s2 (fun k hk h => by
                  have := HBM.out
                  rcases h with h | h
                  · omega
                  · have := (HMr.out.m.cls.lt k h).1; omega)
                have HRB' : Hid ((w'.setCell ⟨bm, 0, none⟩ (.slice (some ⟨g', 0, none⟩) (i + 1) cap')).heap[w.heap.size]? = some (.cells #[.slice none 0 0, .slice none 0 0] 33 (0, 0))) := by
                  show _ = _
                  rw [s2.block _ (lt_of_block HRBr.out) (fun h => by
                    rcases h with h | h
                    · have := HBM.out; omega
                    · exact row_not_cells HMr.out.m.cls HRBr.out (by decide) h)]
                  exact HRBr.out
                obtain ⟨m0, m1, mf⟩ := two_cells s3
                have mf0 := mf 0
                clear ho hg hor hc' hm' s1 s2 s3 mf HST HCX p0 p1 pf0
                go_wp2_with fail
                go_roundg (n - (i + 1))
                case measure => omega
                case rel => exact ⟨i + 1, _, _, _, by omega, by go_num, HM'.out, HRB'.out, HFz.out⟩
        · have d1 : decide (i < n) = false := decide_eq_false h1
          have hie : i = n := by omega
          clear h1 hjq
          subst hie
          have HMA : Hid (∀ w', Fr (fun k => k = w.heap.size) wr w' → MatR w' w.heap.size (.slice ac i cc) (.slice ar nR cr) A (clC (nrA T A) i) (clR (nrA T A) i) U) := fun w' f => by
            rw [← HR.out]
            have h2 := HM.out.m
            exact ⟨row_kept h2.cls f (fun k hk h => by subst h; exact row_not_cells h2.cls HRB.out (by decide) hk), row_kept h2.reps f (fun k hk h => by subst h; exact row_not_cells h2.reps HRB.out (by decide) hk), fun c hc => row_kept (h2.words c hc) f (fun k hk h => by subst h; exact row_not_cells (h2.words c hc) HRB.out (by decide) hk)⟩
          obtain ⟨z0, z1, zf⟩ := two_cells HM.out.blk
          obtain ⟨c0, c1, cf⟩ := two_cells HRB.out
          have f0 := cf 0
          have f1 := cf 1
          clear cf zf
          go_wp2_with fail
          have HFz : Hid (Fr (fun k => k = w.heap.size) wr ((wr.setCell ⟨w.heap.size, 0, none⟩ (.slice ac i cc)).setCell ⟨w.heap.size, 1, none⟩ (.slice ar nR cr))) := ((Fr.refl (fun k => k = w.heap.size) wr).setCell (p := ⟨w.heap.size, 0, none⟩) (fun _ => rfl) _).setCell (p := ⟨w.heap.size, 1, none⟩) (fun _ => rfl) _
          refine bodyPost_ret (v := .tuple #[.agg #[.slice ac i cc, .slice ar nR cr], .int .i64 0]) (by obtain ⟨m0, m1, _⟩ := two_cells (set2_cells HRB.out (.slice ac i cc) (.slice ar nR cr)); simp [results, Try.results13, go_sem, m0, m1]) rfl ?_
          exact ⟨_, _, U, rfl, HMA.out _ HFz.out, HFr.out.trans HFz.out (fun k hk h => by omega)⟩

end Go.Proofs.Ytodgdbbhllejkaa
