/- 'join': the class that a bitmap joins, or begins. -/
import Derived.Test.YtodgdbbhllejkaaKBg
namespace Go.Proofs.Ytodgdbbhllejkaa
open Go.RowKit Go.Maps

variable {w w' : World} {base bc bm t m : Nat} {A : Nat → Bp} {R : List Nat} {rv : Value} {U : Nat → Value} {D : DataW Value} {V : Nat → Nat → Value}

theorem find_at {q : Nat → Bool} : ∀ {F : List Nat} {k : Nat}, k < F.length → (∀ j, j < k → q (F.getD j 0) = false) → q (F.getD k 0) = true → F.find? q = some (F.getD k 0)
  | [], k, hk, _, _ => absurd hk (Nat.not_lt_zero _)
  | a :: F, 0, _, _, h2 => by
    have h2' : q a = true := h2
    rw [List.find?_cons, h2']; rfl
  | a :: F, k + 1, hk, h1, h2 => by
    have ha : q a = false := h1 0 (by omega)
    rw [List.find?_cons, ha]
    exact find_at (F := F) (k := k) (by simpa using hk) (fun j hj => h1 (j + 1) (by omega)) h2
theorem find_no {q : Nat → Bool} : ∀ {F : List Nat}, (∀ j, j < F.length → q (F.getD j 0) = false) → F.find? q = none
  | [], _ => rfl
  | a :: F, h => by
    have ha : q a = false := h 0 (by simp)
    rw [List.find?_cons, ha]
    exact find_no (F := F) (fun j hj => h (j + 1) (by simpa using hj))

/-- Near, by numbers. -/
def nrA (t : Nat) (A : Nat → Bp) (r i : Nat) : Bool := nrB t (A r) (A i)
theorem szB_iff {A : Nat → Bp} {r x y : Nat} (h : szB A r x y = true) : (A r).x = x ∧ (A r).y = y := by
  unfold szB at h
  rwa [Bool.and_eq_true, decide_eq_true_eq, decide_eq_true_eq] at h
set_option linter.unusedSimpArgs false in
theorem fnd_ofSz (t : Nat) (A : Nat → Bp) (R : List Nat) (i x y : Nat) (hx : (A i).x = x) (hy : (A i).y = y) : fnd (nrA t A) R i = (ofSz (szB A) R x y).find? fun c => nrA t A (R.getD c 0) i := by
  unfold fnd ofSz
  rw [List.find?_filter]
  congr 1
  funext c
  unfold nrA nrB szB
  rw [hx, hy]
  by_cases h1 : (A (R.getD c 0)).x = x
  · by_cases h2 : (A (R.getD c 0)).y = y
    · simp [h1, h2]
    · simp [h2]
  · simp [h1]
theorem mem_ofSz {sz : Nat → Nat → Nat → Bool} {R : List Nat} {x y k : Nat} (h : k < (ofSz sz R x y).length) : (ofSz sz R x y).getD k 0 < R.length ∧ sz (R.getD ((ofSz sz R x y).getD k 0) 0) x y = true := by
  have hm : (ofSz sz R x y).getD k 0 ∈ ofSz sz R x y := by
    rw [List.getD_eq_getElem?_getD, List.getElem?_eq_getElem h]; exact List.getElem_mem h
  have := List.mem_filter.1 hm
  exact ⟨List.mem_range.1 this.1, this.2⟩

set_option maxRecDepth 100000 in
set_option maxHeartbeats 4000000 in
theorem join_any (i x y : Nat) (vb : Value) (w : World) (h : Cl w base bc bm t A R rv U m D V) (hR : R.length ≤ 4096) (hful : R.length < 4096 ∨ fnd (nrA t A) R i ≠ none) (hx : x ≤ 1048576) (hy : y ≤ 1048576) (sb : Seen w vb (A i).l)
    (hAx : (A i).x = x) (hAy : (A i).y = y) (hg : ∀ r ∈ R, Good (A r)) (hgi : Good (A i)) (hb0 : base ≤ w.heap.size) (hm : m ≤ 4096) :
    Calls Try.prog 32 #[.pointer (some ⟨bc, 0, none⟩), .agg #[.int .i64 (x : Int), .int .i64 (y : Int), vb]] w fun e w' => ∃ rv' U' m' D' V' R' c, e = .returned (.tuple #[.int .i64 ((c : Nat) : Int), .int .i64 0]) ∧ Cl w' base bc bm t A R' rv' U' m' D' V' ∧ Fr (fun k => k = bc ∨ k = bm ∨ base ≤ k) w w' ∧ ((fnd (nrA t A) R i = some c ∧ R' = R ∧ m' = m) ∨ (fnd (nrA t A) R i = none ∧ c = R.length ∧ R' = R ++ [i] ∧ m' = m + 1)) := by
  have HFD : Hid (fnd (nrA t A) R i = (ofSz (szB A) R x y).find? fun c => nrA t A (R.getD c 0) i) := fnd_ofSz t A R i x y hAx hAy
  have hl1 : 0 < (A i).l.length ∧ (A i).l.length ≤ 1048576 := by
    obtain ⟨W, H, _, _, g1, g2, g3, e, _⟩ := hgi.vb
    obtain ⟨_, _, f3⟩ := size_facts g1 g2 g3
    rw [e, length_render]
    exact ⟨Nat.mul_pos g2 (stride_pos g1), f3⟩
  have HCL : Hid (∀ w', Fr (fun _ => False) w w' → Cl w' base bc bm t A R rv U m D V) := fun w' f => h.kept f (fun h => h) (fun h => h) (fun _ _ h => h)
  have HSB : Hid (∀ w', Fr (fun _ => False) w w' → Seen w' vb (A i).l) := fun w' f => sb.kept f
  have HBG : Hid (R.length < 4096 → ∀ w', Fr (fun _ => False) w w' → Calls Try.prog 50 #[.pointer (some ⟨bc, 0, none⟩), .agg #[.int .i64 (x : Int), .int .i64 (y : Int), vb]] w' fun e w'' => ∃ rv' U' D' V', e = .returned (.tuple #[.int .i64 (R.length : Int), .int .i64 0]) ∧ Cl w'' base bc bm t A (R ++ [i]) rv' U' (m + 1) D' V' ∧ Fr (fun k => k = bc ∨ k = bm ∨ base ≤ k) w' w'') := fun hlt w' f =>
    begin_ok i x y vb (A i).l w' (HCL.out w' f) hlt hx hy hl1.1 hl1.2 (HSB.out w' f) hAx hAy rfl (Nat.le_trans hb0 f.size) hm
  have HNE : Hid (∀ w', Fr (fun _ => False) w w' → ∀ k, k < (ofSz (szB A) R x y).length → Calls Try.prog 49 #[.pointer (some ⟨bc, 0, none⟩), .int .i64 (((ofSz (szB A) R x y).getD k 0 : Nat) : Int), .agg #[.int .i64 (x : Int), .int .i64 (y : Int), vb]] w' fun e w'' => e = .returned (.bool (nrA t A (R.getD ((ofSz (szB A) R x y).getD k 0) 0) i)) ∧ Fr (fun _ => False) w' w'') := fun w' f k hk => by
    obtain ⟨q1, q2⟩ := mem_ofSz hk
    have q2 := szB_iff q2
    have hgc : Good (A (R.getD ((ofSz (szB A) R x y).getD k 0) 0)) := hg _ (by rw [List.getD_eq_getElem?_getD, List.getElem?_eq_getElem q1]; exact List.getElem_mem q1)
    have := isNear_any ((ofSz (szB A) R x y).getD k 0) (A i) vb w' (HCL.out w' f) q1 hR hgc hgi (HSB.out w' f) (by rw [q2.1, hAx]) (by rw [q2.2, hAy])
    rw [hAx, hAy] at this
    exact this
  have HLK : Hid (∀ W, Fr (fun _ => False) w W → (Instr.lookup 58 (.map (some bm)) (.agg #[.int .i64 (x : Int), .int .i64 (y : Int)]) false).run Try.prog W = .ok (V x y) W) := fun W f => by
    have hc := (HCL.out W f).m
    obtain ⟨v', ps, hrun, hRv⟩ := hc.map.lookup Try.keyed77 Try.underlying58 (Try.zero31 W) (zd := .held (.slice none 0 0)) (zp := []) rfl (keyS x y hx hy)
    rw [hc.val x y hx hy] at hRv
    simp only [heldR, Option.some.injEq, Prod.mk.injEq, DataW.held.injEq] at hRv
    obtain ⟨rfl, _⟩ := hRv
    exact hrun
  have hln := length_ofSz (szB A) R x y
  have HRW : Hid (∀ w', Fr (fun _ => False) w w' → w'.ownsRow base 3 1 (V x y) (ofSz (szB A) R x y).length (intCells (ofSz (szB A) R x y))) := fun w' f => (HCL.out w' f).m.row x y
  obtain ⟨av, cv, hVV⟩ := own_slice (h.m.row x y)
  rw [hVV] at HLK HRW
  have HFU : Hid (R.length < 4096 ∨ fnd (nrA t A) R i ≠ none) := hful
  clear hful
  have HRC : Hid (∀ w', Fr (fun _ => False) w w' → ∀ k, k < (ofSz (szB A) R x y).length → ∃ gv, av = some ⟨gv, 0, none⟩ ∧ w'.cell? ⟨gv, k, none⟩ = some (.int .i64 (((ofSz (szB A) R x y).getD k 0 : Nat) : Int))) := fun w' f k hk => by
    obtain ⟨gv, cv', e, _⟩ := row_form (HRW.out w' f) (by omega)
    cases e
    exact ⟨gv, rfl, ((HRW.out w' f).cellAt k (by omega)).trans (intCells_get _ hk)⟩
  have HS : Hid (∀ w' : World, Fr (fun _ => False) (w.alloc (.cells #[.int .i64 (x : Int), .int .i64 (y : Int), vb] 48)) w' → (w'.cell? ⟨w.heap.size, 0, none⟩ = some (.int .i64 x) ∧ w'.cell? ⟨w.heap.size, 1, none⟩ = some (.int .i64 y) ∧ w'.cell? ⟨w.heap.size, 2, none⟩ = some vb) ∧ w'.cell? ⟨bc, 2, none⟩ = some (.map (some bm))) := fun w' f => ⟨cells3_of f, (HCL.out w' (((Fr.refl _ _).alloc _).trans f (fun _ _ h => h))).cells.2.2⟩
  have HA : Hid (Fr (fun _ => False) w (w.alloc (.cells #[.int .i64 (x : Int), .int .i64 (y : Int), vb] 48))) := (Fr.refl _ _).alloc _
  clear h sb hg hgi hAx hAy hVV
  generalize hF : ofSz (szB A) R x y = F at *
  generalize hnF : F.length = nF at *
  have HNF : Hid (F.length = nF) := hnF
  clear hnF hF
  obtain ⟨⟨c0, c1, c2⟩, d2⟩ := HS.out _ (Fr.refl _ _)
  go_enter Try.func32, Try.ntmps32
  go_wp2_with fail
  generalize w.alloc (.cells #[.int .i64 (x : Int), .int .i64 (y : Int), vb] 48) = w0 at *
  go_region_held3 (fun w' => (w'.cell? ⟨w.heap.size, 0, none⟩ = some (.int .i64 x) ∧ w'.cell? ⟨w.heap.size, 1, none⟩ = some (.int .i64 y) ∧ w'.cell? ⟨w.heap.size, 2, none⟩ = some vb) ∧ w'.cell? ⟨bc, 2, none⟩ = some (.map (some bm))) (first | exact HS.out _ (Fr.refl _ _).drew | exact HS.out _ hf3'.out) (first | (go_at_call 48; refine (sizeOf_any (x : Int) (y : Int) vb _).mono ?_; rintro e w3 ⟨rfl, hf3⟩; (have hf3' : Hid (Fr (fun _ => False) w0 w3) := (Fr.refl (fun _ => False) w0).drew.trans hf3 (fun _ _ h => h)); (have hlk := HLK.out w3 (HA.out.trans hf3'.out (fun _ _ h => h))); clear hf3))
  clear c0 c1 c2 d2 hlk
  go_wp2_with fail
  go_loopg [7, 16] nF (fun q _ k wr => ∃ (j : Nat), j + q = nF ∧ k = .int .i64 (j : Int) ∧ Hid (∀ k, k < j → nrA t A (R.getD (F.getD k 0) 0) i = false) ∧ Fr (fun _ => False) w0 wr)
  case atStart => exact ⟨0, by omega, rfl, fun _ h => absurd h (Nat.not_lt_zero _), hf3'.out⟩
  case round =>
    obtain ⟨j, hjq, rfl, HNO, hfr⟩ := hrel
    have HFr : Hid (Fr (fun _ => False) w0 wr) := hfr
    have HFw : Hid (Fr (fun _ => False) w wr) := HA.out.trans hfr (fun _ _ h => h)
    clear hfr
    obtain ⟨⟨c0, c1, c2⟩, d2⟩ := HS.out _ HFr.out
    by_cases h1 : j < nF
    · have d1 : decide (j < nF) = true := decide_eq_true h1
      obtain ⟨gv, rfl, k0⟩ := HRC.out wr HFw.out j h1
      have HN := HNE.out wr HFw.out j h1
      generalize hcj : F.getD j 0 = cj at *
      have HCJ : Hid (F.getD j 0 = cj) := hcj
      clear hcj
      cases hnr : nrA t A (R.getD cj 0) i
      · rw [hnr] at HN
        have HN' : Hid _ := HN
        have HNO2 : Hid (∀ k, k < j + 1 → nrA t A (R.getD (F.getD k 0) 0) i = false) := fun k hk => by
          by_cases e : k = j
          · subst e; rw [HCJ.out]; exact hnr
          · exact HNO.out k (by omega)
        clear HN hnr
        go_wp2_with fail
        refine Calls.mono HN'.out ?_
        rintro e w4 ⟨rfl, hf4⟩
        have HF4 : Hid (Fr (fun _ => False) w0 w4) := HFr.out.trans hf4 (fun _ _ h => h)
        clear hf4
        go_wp2_with fail
        go_roundg (nF - (j + 1))
        case measure => omega
        case rel => exact ⟨j + 1, by omega, by go_num, HNO2.out, HF4.out⟩
      · rw [hnr] at HN
        have HN' : Hid _ := HN
        have HSM : Hid (fnd (nrA t A) R i = some cj) := by
          show _ = _
          rw [HFD.out, find_at (k := j) (by rw [HNF.out]; exact h1) (fun k hk => HNO.out k hk) (by rw [HCJ.out]; exact hnr), HCJ.out]
        clear HN hnr
        go_wp2_with fail
        refine Calls.mono HN'.out ?_
        rintro e w4 ⟨rfl, hf4⟩
        have HF4 : Hid (Fr (fun _ => False) w w4) := HFw.out.trans hf4 (fun _ _ h => h)
        clear hf4
        go_wp2_with fail
        go_ret2
        exact ⟨_, _, _, _, _, R, cj, rfl, HCL.out w4 HF4.out, HF4.out.mono (fun _ _ h => h.elim), Or.inl ⟨HSM.out, rfl, rfl⟩⟩
    · have d1 : decide (j < nF) = false := decide_eq_false h1
      have HNN : Hid (fnd (nrA t A) R i = none) := by
        show _ = _
        rw [HFD.out]
        exact find_no (fun k hk => HNO.out k (by rw [HNF.out] at hk; omega))
      have hlt : R.length < 4096 := by
        rcases HFU.out with h | h
        · exact h
        · exact absurd HNN.out h
      have HB := HBG.out hlt wr HFw.out
      have HB' : Hid _ := HB
      clear HB
      go_wp2_with fail
      refine Calls.mono HB'.out ?_
      rintro e w4 ⟨rv', U', D', V', rfl, hcl, hf4⟩
      have HC4 : Hid (Cl w4 base bc bm t A (R ++ [i]) rv' U' (m + 1) D' V') := hcl
      have HF4 : Hid (Fr (fun k => k = bc ∨ k = bm ∨ base ≤ k) w w4) := (HFw.out.mono (fun _ _ h => h.elim)).trans hf4 (fun _ _ h => h)
      clear hcl hf4
      go_wp2_with fail
      go_ret2
      exact ⟨_, _, _, _, _, R ++ [i], R.length, rfl, HC4.out, HF4.out, Or.inr ⟨HNN.out, rfl, rfl, rfl⟩⟩
end Go.Proofs.Ytodgdbbhllejkaa
