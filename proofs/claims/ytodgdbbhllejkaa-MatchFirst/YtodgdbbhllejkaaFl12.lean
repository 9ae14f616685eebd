/- 'MatchFirst': each bitmap is near its class's, and near none of an earlier class; classes are begun in their order. Ahead of it: 'light' to the number, 'Fits', the classes' bitmaps as an argument, classes of bitmaps that are apart. -/
import Derived.Test.YtodgdbbhllejkaaEb
namespace Go.Proofs.Ytodgdbbhllejkaa
open Go.RowKit

set_option maxRecDepth 100000 in
theorem fits_any (x : Nat) (w : World) :
    Calls Try.prog 24 #[.float .f64 x] w fun e w' => e = .returned (.bool (tolB x)) ∧ w' = w := by
  go_enter Try.func24, Try.ntmps24
  go_wp2_with fail
  all_goals (go_ret; exact ⟨by show _ = Ending.returned (Value.bool (leB 0 x)); rw [← o_ge]; rfl, rfl⟩)

/-- How much 'light' counts. -/
def wgt (A : Nat → Bp) : Nat → Nat := sumTo fun j => 64 * (A j).l.length + 8
theorem wgt_succ (A : Nat → Bp) (n : Nat) : wgt A (n + 1) = wgt A n + (64 * (A n).l.length + 8) := rfl
def lgtB (A : Nat → Bp) (n : Nat) : Bool := decide (wgt A n ≤ 384000) && decide (n ≤ 40)

set_option maxRecDepth 100000 in
set_option maxHeartbeats 2000000 in
theorem light_exact (ao : Option Addr) (n cap : Nat) (A : Nat → Bp) (w : World) (h : BpsAt w ao n A) (hl : ∀ j, j < n → (A j).l.length ≤ 1048576) :
    Calls Try.prog 9 #[.slice ao n cap] w fun e w' => e = .returned (.bool (lgtB A n)) ∧ w' = w := by
  have hn := h.len
  have HCE : Hid (∀ j, j < n → ∃ b off av cv, ao = some ⟨b, off, none⟩ ∧ w.cell? ⟨b, off + j * 3 + 2, none⟩ = some (.slice av (A j).l.length cv)) := fun j hj => by
    obtain ⟨b, off, e, hc⟩ := h.cells (by omega)
    obtain ⟨av, cv, hv, _⟩ := (h.ok j hj).hv
    exact ⟨b, off, av, cv, e, by rw [(hc j hj).2.2, hv]⟩
  have HL : Hid (∀ j, j < n → (A j).l.length ≤ 1048576) := hl
  have HBD : Hid (∀ j, j < n → 384000 < wgt A (j + 1) → lgtB A n = false) := fun j hj hgt => by
    unfold lgtB
    have := sumTo_mono (fun j => 64 * (A j).l.length + 8) (show j + 1 ≤ n by omega)
    have e1 : wgt A n = sumTo (fun j => 64 * (A j).l.length + 8) n := rfl
    have e2 : wgt A (j + 1) = sumTo (fun j => 64 * (A j).l.length + 8) (j + 1) := rfl
    rw [decide_eq_false (by omega)]; rfl
  clear h hl
  go_enter Try.func9, Try.ntmps9
  go_wp2_with fail
  go_loopg [3, 4] n (fun q x k wr => ∃ (j X : Nat), j + q = n ∧ k = .int .i64 (j : Int) ∧ x = .int .i64 (X : Int) ∧ Hid (X = wgt A j ∧ wgt A j ≤ 384000) ∧ wr = w)
  case atStart => exact ⟨0, 0, by omega, rfl, rfl, ⟨rfl, Nat.zero_le _⟩, rfl⟩
  case round =>
    obtain ⟨j, X, hjq, rfl, rfl, HX, rfl⟩ := hrel
    by_cases h1 : j < n
    · have d1 : decide (j < n) = true := decide_eq_true h1
      obtain ⟨b, off, av, cv, rfl, k2⟩ := HCE.out j h1
      have hl := HL.out j h1
      have hX : X ≤ 384000 := by have := HX.out; omega
      have HN : Hid (X + (64 * (A j).l.length + 8) = wgt A (j + 1)) := by show _ = _; rw [wgt_succ, HX.out.1]
      have HB := HBD.out j h1
      rw [← HN.out] at HB
      have HB' : Hid _ := HB
      clear HB
      generalize (A j).l.length = nl at *
      by_cases h2 : 384000 < X + (64 * nl + 8)
      · have hff : Hid (lgtB A n = false) := HB'.out h2
        have d2 : decide ((384000 : Int) < (X : Int) + 64 * (nl : Int) + 8) = true := decide_eq_true (by omega)
        have h2i : (384000 : Int) < (X : Int) + 64 * (nl : Int) + 8 := by omega
        go_wp2_with fail
        go_ret
        refine ⟨?_, rfl⟩
        rw [hff.out]
        rfl
      · have d2 : decide ((384000 : Int) < (X : Int) + 64 * (nl : Int) + 8) = false := decide_eq_false (by omega)
        have h2i : ¬ (384000 : Int) < (X : Int) + 64 * (nl : Int) + 8 := by omega
        go_wp2_with fail
        go_roundg (n - (j + 1))
        case measure => omega
        case rel => exact ⟨j + 1, X + (64 * nl + 8), by omega, by go_num, congrArg (Value.int .i64) (by omega), ⟨HN.out, by rw [← HN.out]; omega⟩, rfl⟩
    · have d1 : decide (j < n) = false := decide_eq_false h1
      have hj : j = n := by omega
      have HLG : Hid (lgtB A n = decide (n ≤ 40)) := by
        show _ = _
        unfold lgtB
        rw [decide_eq_true (show wgt A n ≤ 384000 by rw [← hj]; exact HX.out.2), Bool.true_and]
      by_cases h40 : n ≤ 40
      · have d40 : decide ((n : Int) ≤ 40) = true := decide_eq_true (by omega)
        rw [decide_eq_true h40] at HLG
        go_wp2_with fail
        go_ret
        refine ⟨?_, rfl⟩
        rw [HLG.out]
        rfl
      · have d40 : decide ((n : Int) ≤ 40) = false := decide_eq_false (by omega)
        rw [decide_eq_false h40] at HLG
        go_wp2_with fail
        go_ret
        refine ⟨?_, rfl⟩
        rw [HLG.out]
        rfl

set_option maxRecDepth 100000 in
set_option maxHeartbeats 2000000 in
theorem mays_exact (ao : Option Addr) (n cap : Nat) (A : Nat → Bp) (w : World) (h : BpsAt w ao n A) :
    Calls Try.prog 22 #[.slice ao n cap] w fun e w' => e = .returned (.bool (allB A n && lgtB A n)) ∧ Fr (fun _ => False) w w' := by
  have hn := h.len
  have HB : Hid (∀ w', Fr (fun _ => False) w w' → BpsAt w' ao n A) := fun w' f => h.kept f
  have HC : Hid (∀ w', Fr (fun _ => False) w w' → ∀ j, j < n → Calls Try.prog 28 #[.agg #[.int .i64 (A j).x, .int .i64 (A j).y, (A j).v]] w' fun e w'' => e = .returned (.bool (okB (A j))) ∧ Fr (fun _ => False) w' w'') := fun w' f j hj => by
    have := (HB.out w' f).ok j hj
    exact may_any _ _ _ _ w' this.hx this.hy this.hv this.hlt
  have HLI : Hid (allB A n = true → ∀ w', Fr (fun _ => False) w w' → Calls Try.prog 9 #[.slice ao n cap] w' fun e w'' => e = .returned (.bool (lgtB A n)) ∧ w'' = w') := fun hall w' f => light_exact ao n cap A w' (HB.out w' f) (fun j hj => by
    obtain ⟨W, H, _, _, g1, g2, g3, e, _⟩ := (((HB.out w (Fr.refl _ _)).ok j hj).good (of_decide_eq_true hall j hj)).vb
    have := size_facts g1 g2 g3
    rw [e, length_render]; omega)
  have HCE : Hid (∀ w', Fr (fun _ => False) w w' → ∀ j, j < n → ∃ b off, ao = some ⟨b, off, none⟩ ∧ w'.cell? ⟨b, off + j * 3, none⟩ = some (.int .i64 (A j).x) ∧ w'.cell? ⟨b, off + j * 3 + 1, none⟩ = some (.int .i64 (A j).y) ∧ w'.cell? ⟨b, off + j * 3 + 2, none⟩ = some (A j).v) := fun w' f j hj => by
    obtain ⟨b, off, e, hc⟩ := (HB.out w' f).cells (by omega)
    exact ⟨b, off, e, hc j hj⟩
  have HSL : Hid (∀ j, j < n → ∃ av nv cv, (A j).v = .slice av nv cv) := fun j hj => by
    obtain ⟨av, cv, e, _⟩ := (h.ok j hj).hv
    exact ⟨_, _, _, e⟩
  clear h
  go_enter Try.func22, Try.ntmps22
  go_wp2_with fail
  go_loopg [3] n (fun q k wr => ∃ (j : Nat), j + q = n ∧ k = .int .i64 (j : Int) ∧ Hid (∀ k, k < j → okB (A k) = true) ∧ Fr (fun _ => False) w wr)
  case atStart => exact ⟨0, by omega, rfl, fun _ h => absurd h (Nat.not_lt_zero _), Fr.refl _ _⟩
  case round =>
    obtain ⟨j, hjq, rfl, HNO, hfr⟩ := hrel
    have HFr : Hid (Fr (fun _ => False) w wr) := hfr
    clear hfr
    by_cases h1 : j < n
    · have d1 : decide (j < n) = true := decide_eq_true h1
      obtain ⟨b, off, rfl, k0, k1, k2⟩ := HCE.out wr HFr.out j h1
      obtain ⟨av, nv, cv, hv⟩ := HSL.out j h1
      have HCK := HC.out wr HFr.out j h1
      rw [hv] at HCK k2
      have HCK' : Hid _ := HCK
      have HNA : Hid (okB (A j) = false → allB A n = false) := fun hf => decide_eq_false (fun h => by have := h j h1; rw [hf] at this; cases this)
      have HOK : Hid (okB (A j) = true → ∀ k, k < j + 1 → okB (A k) = true) := fun hb k hk => by
        by_cases e : k = j
        · subst e; exact hb
        · exact HNO.out k (by omega)
      clear HCK hv
      generalize hx : (A j).x = x at *
      generalize hy : (A j).y = y at *
      clear hx hy
      cases hbb : okB (A j)
      · rw [hbb] at HCK'
        have HNB : Hid (allB A n = false) := HNA.out hbb
        clear hbb HOK HNA
        go_wp2_with fail
        refine Calls.mono HCK'.out ?_
        rintro e w4 ⟨rfl, hf4⟩
        have HF4 : Hid (Fr (fun _ => False) w w4) := HFr.out.trans hf4 (fun _ _ h => h)
        clear hf4
        go_wp2_with fail
        go_ret
        refine ⟨?_, HF4.out⟩
        rw [HNB.out]
        rfl
      · rw [hbb] at HCK'
        have HOK' : Hid (∀ k, k < j + 1 → okB (A k) = true) := fun k hk => HOK.out hbb k hk
        clear hbb HOK HNA
        go_wp2_with fail
        refine Calls.mono HCK'.out ?_
        rintro e w4 ⟨rfl, hf4⟩
        have HF4 : Hid (Fr (fun _ => False) w w4) := HFr.out.trans hf4 (fun _ _ h => h)
        clear hf4
        go_wp2_with fail
        go_roundg (n - (j + 1))
        case measure => omega
        case rel => exact ⟨j + 1, by omega, by go_num, HOK'.out, HF4.out⟩
    · have d1 : decide (j < n) = false := decide_eq_false h1
      have HT : Hid (allB A n = true) := decide_eq_true (fun k hk => HNO.out k (by omega))
      go_wp2_with fail
      refine (HLI.out HT.out wr HFr.out).mono ?_
      rintro e w4 ⟨rfl, rfl⟩
      go_wp2_with fail
      go_ret
      refine ⟨?_, HFr.out⟩
      rw [HT.out, Bool.true_and]
      rfl

theorem wgt_reps (nr : Nat → Nat → Bool) (A : Nat → Bp) (U : Nat → Value) : ∀ n, wgt (repB A (clR nr n) U) (clR nr n).length ≤ wgt A n
  | 0 => Nat.le_refl _
  | n + 1 => by
    have ih := wgt_reps nr A U n
    rw [wgt_succ]
    rcases clR_cases nr n with e | e <;> rw [e]
    · omega
    · rw [List.length_append, List.length_singleton, wgt_succ]
      have e1 : wgt (repB A (clR nr n ++ [n]) U) (clR nr n).length = wgt (repB A (clR nr n) U) (clR nr n).length := sumTo_congr (fun j hj => by
        show 64 * (A ((clR nr n ++ [n]).getD j 0)).l.length + 8 = 64 * (A ((clR nr n).getD j 0)).l.length + 8
        rw [getD_append_lt _ _ hj])
      have e2 : (repB A (clR nr n ++ [n]) U (clR nr n).length).l.length = (A n).l.length := by
        show (A ((clR nr n ++ [n]).getD (clR nr n).length 0)).l.length = _
        rw [getD_append_eq]
      rw [e1, e2]
      omega
/-- The classes' bitmaps are apart. -/
theorem cl_apart (nr : Nat → Nat → Bool) : ∀ n i j, j < i → i < (clR nr n).length → nr ((clR nr n).getD j 0) ((clR nr n).getD i 0) = false
  | 0, i, j, _, h => absurd h (Nat.not_lt_zero _)
  | n + 1, i, j, hji, h => by
    cases hf : fnd nr (clR nr n) n with
    | some c =>
      rw [clR_succ_some hf] at h ⊢
      exact cl_apart nr n i j hji h
    | none =>
      rw [clR_succ_none hf] at h ⊢
      rw [List.length_append, List.length_singleton] at h
      by_cases e : i = (clR nr n).length
      · subst e
        rw [getD_append_eq, getD_append_lt _ _ hji]
        exact fnd_no hf j hji
      · rw [getD_append_lt _ _ (by omega), getD_append_lt _ _ (by omega)]
        exact cl_apart nr n i j hji (by omega)
theorem clR_all (nr : Nat → Nat → Bool) (n : Nat) (h : ∀ i j, j < i → i < n → nr j i = false) : clR nr n = List.range n := by
  induction n with
  | zero => rfl
  | succ n ih =>
    have e := ih (fun i j h1 h2 => h i j h1 (by omega))
    have hf : fnd nr (clR nr n) n = none := by
      unfold fnd
      rw [List.find?_eq_none]
      intro c hc
      rw [e, List.length_range] at hc
      have hc' := List.mem_range.1 hc
      rw [e, List.getD_eq_getElem?_getD, List.getElem?_range hc']
      show ¬ nr c n = true
      rw [h n c hc' (by omega)]
      decide
    rw [clR_succ_none hf, e, List.range_succ]

theorem own_cap {w : World} {base e s n : Nat} {v : Value} {xs : List Value} (h : w.ownsRow base e s v n xs) : CapOK v ∧ NilOK v := by
  rcases h.2 with ⟨rfl, rfl⟩ | ⟨g, cap, cur, rfl, _, _, hc, hm, _⟩
  · exact ⟨fun ao n c e => by cases e; exact ⟨Nat.le_refl _, by omega⟩, fun n c e => by cases e; exact ⟨rfl, rfl⟩⟩
  · exact ⟨fun ao n c e => by cases e; exact ⟨hc, hm⟩, fun n c e => by cases e⟩
theorem Mat.bps {w : World} {base : Nat} {cv : Value} {ar : Option Addr} {nr cr : Nat} {A : Nat → Bp} {C R : List Nat} {U : Nat → Value} (h : Mat w base cv (.slice ar nr cr) A C R U) (hR : R.length ≤ 4096) (hg : ∀ c, c < R.length → Good (A (R.getD c 0))) : BpsAt w ar R.length (repB A R U) := by
  have hl : ∀ c, c < R.length → (A (R.getD c 0)).l.length ≤ 1048576 := fun c hc => by
    obtain ⟨W, H, _, _, g1, g2, g3, e, _⟩ := (hg c hc).vb
    have := size_facts g1 g2 g3
    rw [e, length_render]; omega
  have hr := h.row (fun c hc => by have := hl c hc; omega)
  refine ⟨by omega, hr.cells, fun c hc => ?_⟩
  obtain ⟨W, H, e1, e2, g1, g2, g3, _, _⟩ := (hg c hc).vb
  obtain ⟨f1, f2, _⟩ := size_facts g1 g2 g3
  obtain ⟨c1, c2⟩ := own_cap (h.words c hc)
  exact ⟨by show _ ≤ (A (R.getD c 0)).x ∧ (A (R.getD c 0)).x ≤ _; rw [e1]; omega, by show _ ≤ (A (R.getD c 0)).y ∧ (A (R.getD c 0)).y ≤ _; rw [e2]; omega, hr.seen c hc, c1, c2, (hg c hc).2⟩
theorem repB_ok {A : Nat → Bp} {R : List Nat} {U : Nat → Value} (hg : ∀ c, c < R.length → Good (A (R.getD c 0))) : allB (repB A R U) R.length = true := decide_eq_true (fun c hc => (hg c hc).1)
theorem nrA_rep (T : Nat) (A : Nat → Bp) (R : List Nat) (U : Nat → Value) (j i : Nat) : nrA T (repB A R U) j i = nrA T A (R.getD j 0) (R.getD i 0) := rfl


theorem cl_step (nr : Nat → Nat → Bool) {i n : Nat} (h : i < n) : (fnd nr (clR nr i) i = none ∧ (clC nr n).getD i 0 = (clR nr i).length ∧ (clR nr (i + 1)).length = (clR nr i).length + 1 ∧ (clR nr n).getD (clR nr i).length 0 = i) ∨ (∃ c, fnd nr (clR nr i) i = some c ∧ (clC nr n).getD i 0 = c ∧ c < (clR nr i).length ∧ (clR nr (i + 1)).length = (clR nr i).length) := by
  have hC : (clC nr n).getD i 0 = (fnd nr (clR nr i) i).getD (clR nr i).length := by
    have h1 : (clC nr n).getD i 0 = (clC nr (i + 1)).getD i 0 := by
      rw [← clC_take nr (show i + 1 ≤ n by omega), List.getD_eq_getElem?_getD, List.getD_eq_getElem?_getD, List.getElem?_take_of_lt (by omega)]
    rw [h1, clC_last]
  cases hf : fnd nr (clR nr i) i with
  | none =>
    rw [hf] at hC
    refine Or.inl ⟨rfl, hC, by rw [clR_succ_none hf]; simp, ?_⟩
    have hlt : (clR nr i).length < (clR nr (i + 1)).length := by rw [clR_succ_none hf]; simp
    rw [clR_front nr (show i + 1 ≤ n by omega) hlt, clR_succ_none hf, getD_append_eq]
  | some c =>
    rw [hf] at hC
    exact Or.inr ⟨c, rfl, hC, (find_spec hf).1, by rw [clR_succ_some hf]⟩

set_option maxRecDepth 100000 in
set_option maxHeartbeats 8000000 in
theorem firstLaw_any (ao : Option Addr) (n cap T : Nat) (A : Nat → Bp) (w : World) (hB : BpsAt w ao n A) (_hT : T < 18446744073709551616) :
    Calls Try.prog 6 #[.agg #[.slice ao n cap, .int .u64 (T : Int)]] w fun e w' => e = .returned (.bool true) ∧ Fr (fun _ => False) w w' := by
  have HBP : Hid (∀ w', Fr (fun _ => False) w w' → BpsAt w' ao n A) := fun w' f => hB.kept f
  have hn := hB.len
  clear hB
  have HBX : Hid (∀ w', Fr (fun _ => False) (w.alloc (.cells #[.slice ao n cap, .int .u64 (T : Int)] 25)) w' → w'.cell? ⟨w.heap.size, 0, none⟩ = some (.slice ao n cap) ∧ w'.cell? ⟨w.heap.size, 1, none⟩ = some (.int .u64 (T : Int))) := fun w' f => by
    obtain ⟨a, b, _⟩ := two_cells (blkOld f (heap_alloc_new w (.cells #[.slice ao n cap, .int .u64 (T : Int)] 25)))
    exact ⟨a, b⟩
  have HA : Hid (Fr (fun _ => False) w (w.alloc (.cells #[.slice ao n cap, .int .u64 (T : Int)] 25))) := (Fr.refl _ _).alloc _
  obtain ⟨b0, b1⟩ := HBX.out _ (Fr.refl _ _)
  have hfb : ∀ w, (callFunc 11 #[.int .u64 (T : Int)]).run Try.prog w = .ok (.value (.float .f64 T)) w := fun w => frombits_run (T : Int) w
  go_enter Try.func6, Try.ntmps6
  go_wp2_with fail
  generalize w.alloc (.cells #[.slice ao n cap, .int .u64 (T : Int)] 25) = w0 at *
  refine (mays_exact ao n cap A _ (HBP.out _ HA.out)).mono ?_
  rintro e w1 ⟨rfl, hf1⟩
  have HF1 : Hid (Fr (fun _ => False) w0 w1) := hf1
  have HW1 : Hid (Fr (fun _ => False) w w1) := HA.out.trans hf1 (fun _ _ h => h)
  clear hf1 b0 b1
  cases hbb : (allB A n && lgtB A n)
  · clear hbb
    go_wp2_with fail
    refine (wakes_any _).mono ?_
    rintro e w2 ⟨rfl, hf2⟩
    have HF2 : Hid (Fr (fun _ => False) w w2) := HW1.out.trans hf2 (fun _ _ h => h)
    clear hf2
    go_wp2_with fail
    go_ret
    exact ⟨rfl, HF2.out⟩
  · rw [Bool.and_eq_true] at hbb
    obtain ⟨hall, hlg⟩ := hbb
    have hn40 : n ≤ 40 := by unfold lgtB at hlg; rw [Bool.and_eq_true, decide_eq_true_eq, decide_eq_true_eq] at hlg; exact hlg.2
    have HWG : Hid (wgt A n ≤ 384000) := by unfold lgtB at hlg; rw [Bool.and_eq_true, decide_eq_true_eq, decide_eq_true_eq] at hlg; exact hlg.1
    obtain ⟨l0, l1⟩ := HBX.out _ HF1.out
    cases htol : tolB T
    · have HCL := classes_badT ao n cap T w1 htol
      have HCL' : Hid _ := HCL
      have HFI : Hid (∀ w', Calls Try.prog 24 #[.float .f64 T] w' fun e w'' => e = .returned (.bool false) ∧ w'' = w') := fun w' => by have := fits_any T w'; rwa [htol] at this
      clear htol hall hlg HCL
      go_wp2_with fail
      refine Calls.mono HCL'.out ?_
      rintro e w2 ⟨rfl, hf2⟩
      have HF2 : Hid (Fr (fun _ => False) w w2) := HW1.out.trans hf2 (fun _ _ h => h)
      clear hf2
      go_wp2_with fail
      refine (HFI.out _).mono ?_
      rintro e w3 ⟨rfl, rfl⟩
      have e0 : ((0 : Int) == 0) = true := by decide
      go_wp2_with fail
      refine (wakes_any _).mono ?_
      rintro e w4 ⟨rfl, hf4⟩
      have HF4 : Hid (Fr (fun _ => False) w w4) := (HF2.out.alloc _).trans hf4 (fun _ _ h => h)
      clear hf4
      go_wp2_with fail
      go_ret
      exact ⟨rfl, HF4.out⟩
    · have HG : Hid (∀ j, j < n → Good (A j)) := fun j hj => ((HBP.out w (Fr.refl _ _)).ok j hj).good (of_decide_eq_true hall j hj)
      have HRG : Hid (∀ c, c < (clR (nrA T A) n).length → Good (A ((clR (nrA T A) n).getD c 0))) := fun c hc => HG.out _ (clR_lt (nrA T A) n _ (by rw [List.getD_eq_getElem?_getD, List.getElem?_eq_getElem hc]; exact List.getElem_mem hc))
      have HCL := classes_ok ao n cap T A w1 (HBP.out _ HW1.out) (by omega) htol hall (by have := clR_le (nrA T A) n; omega)
      have HCL' : Hid _ := HCL
      have HFI : Hid (∀ w', Calls Try.prog 24 #[.float .f64 T] w' fun e w'' => e = .returned (.bool true) ∧ w'' = w') := fun w' => by have := fits_any T w'; rwa [htol] at this
      have HSP : Hid (∀ i, i < n → (clC (nrA T A) n).getD i 0 < (clR (nrA T A) n).length ∧ nrA T A ((clR (nrA T A) n).getD ((clC (nrA T A) n).getD i 0) 0) i = true ∧ ∀ c, c < (clC (nrA T A) n).getD i 0 → nrA T A ((clR (nrA T A) n).getD c 0) i = false) := fun i hi => cl_spec (nrA T A) n (fun i hi => nrB_self htol (HG.out i hi)) n i (Nat.le_refl _) hi
      have HTO : Hid (tolB T = true) := htol
      clear htol hall hlg HCL
      go_wp2_with fail
      refine Calls.mono HCL'.out ?_
      rintro e w2 ⟨cv, rv, U, rfl, hmt, hf2⟩
      have hlc := length_clC (nrA T A) n
      have hrn := clR_le (nrA T A) n
      obtain ⟨ac, cc, hcv⟩ := own_slice hmt.cls
      rw [hlc] at hcv
      obtain ⟨ar, cr, hrv⟩ := own_slice hmt.reps
      subst hcv hrv
      have HF2 : Hid (Fr (fun _ => False) w0 w2) := HF1.out.trans hf2 (fun _ _ h => h)
      have HMA : Hid (Mat w2 0 (.slice ac n cc) (.slice ar (clR (nrA T A) n).length cr) A (clC (nrA T A) n) (clR (nrA T A) n) U) := hmt.base (Nat.zero_le _)
      have HRP : Hid (∀ w', Fr (fun _ => False) w2 w' → BpsAt w' ar (clR (nrA T A) n).length (repB A (clR (nrA T A) n) U)) := fun w' f => (HMA.out.bps (by omega) HRG.out).kept f
      have HCC : Hid (∀ w', Fr (fun _ => False) w2 w' → ∀ i, i < n → ∃ gc, ac = some ⟨gc, 0, none⟩ ∧ w'.cell? ⟨gc, i, none⟩ = some (.int .i64 (((clC (nrA T A) n).getD i 0 : Nat) : Int))) := fun w' f i hi => by
        have hr := row_kept HMA.out.cls f (fun _ _ h => h)
        rw [hlc] at hr
        obtain ⟨gc, cc', e, _⟩ := row_form hr (by omega)
        cases e
        exact ⟨gc, rfl, (hr.cellAt i (by omega)).trans (intCells_get _ (by rw [hlc]; exact hi))⟩
      have HMY : Hid (∀ w', Fr (fun _ => False) w2 w' → Calls Try.prog 22 #[.slice ar (clR (nrA T A) n).length cr] w' fun e w'' => e = .returned (.bool true) ∧ Fr (fun _ => False) w' w'') := fun w' f => by
        have := mays_exact ar (clR (nrA T A) n).length cr (repB A (clR (nrA T A) n) U) w' (HRP.out w' f)
        rw [repB_ok HRG.out, show lgtB (repB A (clR (nrA T A) n) U) (clR (nrA T A) n).length = true from by
          unfold lgtB
          have := wgt_reps (nrA T A) A U n
          have := HWG.out
          rw [decide_eq_true (by omega), decide_eq_true (by omega)]; rfl] at this
        exact this
      have HC2 : Hid (∀ w', Fr (fun _ => False) w2 w' → Calls Try.prog 14 #[.slice ar (clR (nrA T A) n).length cr, .float .f64 T] w' fun e w'' => ∃ ac2 cc2 ar2 cr2, e = .returned (.tuple #[.agg #[.slice ac2 (clR (nrA T A) n).length cc2, .slice ar2 (clR (nrA T A) n).length cr2], .int .i64 0]) ∧ Fr (fun _ => False) w' w'') := fun w' f => by
        have hap : clR (nrA T (repB A (clR (nrA T A) n) U)) (clR (nrA T A) n).length = List.range (clR (nrA T A) n).length := clR_all _ _ (fun i j hj hi => cl_apart (nrA T A) n i j hj hi)
        refine (classes_ok ar (clR (nrA T A) n).length cr T (repB A (clR (nrA T A) n) U) w' (HRP.out w' f) (by omega) HTO.out (repB_ok HRG.out) (by rw [hap, List.length_range]; omega)).mono ?_
        rintro e w'' ⟨cv, rv, U2, he, hm2, hf'⟩
        obtain ⟨ar2, cr2, hrv⟩ := own_slice hm2.reps
        rw [hap, List.length_range] at hrv
        obtain ⟨ac2, cc2, hcv⟩ := own_slice hm2.cls
        rw [length_clC] at hcv
        subst hrv hcv
        exact ⟨ac2, cc2, ar2, cr2, he, hf'⟩
      have HST : Hid (∀ i, i < n → (fnd (nrA T A) (clR (nrA T A) i) i = none ∧ (clC (nrA T A) n).getD i 0 = (clR (nrA T A) i).length ∧ (clR (nrA T A) (i + 1)).length = (clR (nrA T A) i).length + 1 ∧ (clR (nrA T A) n).getD (clR (nrA T A) i).length 0 = i) ∨ (∃ c, fnd (nrA T A) (clR (nrA T A) i) i = some c ∧ (clC (nrA T A) n).getD i 0 = c ∧ c < (clR (nrA T A) i).length ∧ (clR (nrA T A) (i + 1)).length = (clR (nrA T A) i).length)) := fun i hi => cl_step (nrA T A) hi
      have HIL : Hid (∀ i, (clR (nrA T A) i).length ≤ i) := fun i => clR_le (nrA T A) i
      clear hmt hf2 l0 l1 hlc
      have hnn : ((n : Int) != (n : Int)) = false := by simp
      have HF3 : Hid (Fr (fun _ => False) w2 (w2.alloc (.cells #[.slice ac n cc, .slice ar (clR (nrA T A) n).length cr] 33))) := (Fr.refl _ _).alloc _
      have HAL : Hid (∀ w', Fr (fun _ => False) (w2.alloc (.cells #[.slice ac n cc, .slice ar (clR (nrA T A) n).length cr] 33)) w' → (w'.cell? ⟨w2.heap.size, 0, none⟩ = some (.slice ac n cc) ∧ w'.cell? ⟨w2.heap.size, 1, none⟩ = some (.slice ar (clR (nrA T A) n).length cr)) ∧ w'.cell? ⟨w.heap.size, 0, none⟩ = some (.slice ao n cap)) := fun w' f => by
        obtain ⟨a, b, _⟩ := two_cells (blkOld f (heap_alloc_new w2 (.cells #[.slice ac n cc, .slice ar (clR (nrA T A) n).length cr] 33)))
        exact ⟨⟨a, b⟩, (HBX.out w' ((HF2.out.alloc _).trans f (fun _ _ h => h))).1⟩
      obtain ⟨⟨p0, p1⟩, l0⟩ := HAL.out _ (Fr.refl _ _)
      generalize hnR : (clR (nrA T A) n).length = nR at *
      have HNR : Hid ((clR (nrA T A) n).length = nR) := hnR
      clear hnR
      go_wp2_with fail
      generalize w2.alloc (.cells #[.slice ac n cc, .slice ar nR cr] 33) = w3 at *
      generalize w2.heap.size = o at *
      refine (HFI.out _).mono ?_
      rintro e w4 ⟨rfl, rfl⟩
      go_wp2_with fail
      refine (HMY.out _ HF3.out).mono ?_
      rintro e w5 ⟨rfl, hf5⟩
      have HF5 : Hid (Fr (fun _ => False) w4 w5) := hf5
      clear hf5 p0 p1 l0
      go_wp2_with fail
      go_loopg [6, 7] n (fun q nx ii wr => ∃ (i : Nat), i + q = n ∧ ii = .int .i64 (i : Int) ∧ nx = .int .i64 (((clR (nrA T A) i).length : Nat) : Int) ∧ Fr (fun _ => False) w4 wr)
      case atStart => exact ⟨0, by omega, rfl, rfl, HF5.out⟩
      case round =>
        obtain ⟨i, hiq, rfl, rfl, hfr⟩ := hrel
        have HFr : Hid (Fr (fun _ => False) w4 wr) := hfr
        have HF2r : Hid (Fr (fun _ => False) w2 wr) := HF3.out.trans hfr (fun _ _ h => h)
        have HFw : Hid (Fr (fun _ => False) w wr) := HA.out.trans (HF2.out.trans HF2r.out (fun _ _ h => h)) (fun _ _ h => h)
        clear hfr
        obtain ⟨⟨p0, p1⟩, l0⟩ := HAL.out _ HFr.out
        by_cases hin : i < n
        · have di : decide (i < n) = true := decide_eq_true hin
          obtain ⟨gc, hac, k0⟩ := HCC.out wr HF2r.out i hin
          obtain ⟨s1, s2, s3⟩ := HSP.out i hin
          have HSI := HST.out i hin
          have hil := HIL.out i
          subst hac
          have HC1 : Hid (nrA T A ((clR (nrA T A) n).getD ((clC (nrA T A) n).getD i 0) 0) i = true ∧ ∀ k, k < (clC (nrA T A) n).getD i 0 → nrA T A ((clR (nrA T A) n).getD k 0) i = false) := ⟨s2, s3⟩
          rcases HSI with ⟨-, hce, hnx, hRc⟩ | ⟨c', -, hce, hlt, hnx⟩
          · have HNX : Hid ((clR (nrA T A) (i + 1)).length = (clC (nrA T A) n).getD i 0 + 1) := by rw [hnx, hce]; rfl
            have HRC : Hid ((clR (nrA T A) n).getD ((clC (nrA T A) n).getD i 0) 0 = i) := by rw [hce]; exact hRc
            rw [← hce]
            rw [← hce] at hil
            clear hce hnx hRc s2 s3
            generalize (clC (nrA T A) n).getD i 0 = c at *
            have F4 : Hid (Fr (fun _ => False) w4 wr) := HFr.out
            have F2 : Hid (Fr (fun _ => False) w2 wr) := HF2r.out
            have Fw : Hid (Fr (fun _ => False) w wr) := HFw.out
            have hk : c < nR := s1
            obtain ⟨rb, roff, har, hrc⟩ := (HRP.out wr F2.out).cells (by omega)
            obtain ⟨lb, loff, hlb, hlc⟩ := (HBP.out wr Fw.out).cells (by omega)
            subst har hlb
            obtain ⟨ua, uc, hU, -⟩ := ((HRP.out wr F2.out).ok c hk).hv
            obtain ⟨va, vc, hV, -⟩ := ((HBP.out wr Fw.out).ok i hin).hv
            have HS21 : Hid (∀ w', Fr (fun _ => False) wr w' → (w'.cell? ⟨o, 1, none⟩ = some (.slice (some ⟨rb, roff, none⟩) nR cr) ∧ w'.cell? ⟨w.heap.size, 0, none⟩ = some (.slice (some ⟨lb, loff, none⟩) n cap)) ∧ (w'.cell? ⟨rb, roff + c * 3, none⟩ = some (.int .i64 (A ((clR (nrA T A) n).getD c 0)).x) ∧ w'.cell? ⟨rb, roff + c * 3 + 1, none⟩ = some (.int .i64 (A ((clR (nrA T A) n).getD c 0)).y) ∧ w'.cell? ⟨rb, roff + c * 3 + 2, none⟩ = some (.slice ua (A ((clR (nrA T A) n).getD c 0)).l.length uc)) ∧ (w'.cell? ⟨lb, loff + i * 3, none⟩ = some (.int .i64 (A i).x) ∧ w'.cell? ⟨lb, loff + i * 3 + 1, none⟩ = some (.int .i64 (A i).y) ∧ w'.cell? ⟨lb, loff + i * 3 + 2, none⟩ = some (.slice va (A i).l.length vc))) := fun w' f => by
              obtain ⟨⟨_, h1⟩, h0⟩ := HAL.out w' (F4.out.trans f (fun _ _ h => h))
              have r := hrc c hk
              have l := hlc i hin
              rw [show (repB A (clR (nrA T A) n) U c).v = _ from hU] at r
              rw [hV] at l
              have lr := seen_lt r.1
              have ll := seen_lt l.1
              refine ⟨⟨h1, h0⟩, ⟨?_, ?_, ?_⟩, ?_, ?_, ?_⟩
              · rw [f.cellEq lr (fun h => h)]; exact r.1
              · rw [f.cellEq lr (fun h => h)]; exact r.2.1
              · rw [f.cellEq lr (fun h => h)]; exact r.2.2
              · rw [f.cellEq ll (fun h => h)]; exact l.1
              · rw [f.cellEq ll (fun h => h)]; exact l.2.1
              · rw [f.cellEq ll (fun h => h)]; exact l.2.2
            have HEB : Hid (∀ w', Fr (fun _ => False) wr w' → Calls Try.prog 23 #[.agg #[.int .i64 (A ((clR (nrA T A) n).getD c 0)).x, .int .i64 (A ((clR (nrA T A) n).getD c 0)).y, .slice ua (A ((clR (nrA T A) n).getD c 0)).l.length uc], .agg #[.int .i64 (A i).x, .int .i64 (A i).y, .slice va (A i).l.length vc]] w' fun e w'' => e = .returned (.bool true) ∧ Fr (fun _ => False) w' w'') := fun w' f => by
              have s1 := ((HRP.out wr F2.out).ok c hk).hv.kept f
              have s2 := ((HBP.out wr Fw.out).ok i hin).hv.kept f
              rw [hU] at s1
              rw [hV] at s2
              have h := eqB_bp _ _ (HRG.out c hk) (HG.out i hin) s1 s2
              rw [show eqBp (A ((clR (nrA T A) n).getD c 0)) (A i) = true from by rw [HRC.out]; unfold eqBp; simp] at h
              exact h
            clear hrc hlc hU hV
            generalize (A ((clR (nrA T A) n).getD c 0)).x = ax at *
            generalize (A ((clR (nrA T A) n).getD c 0)).y = ay at *
            generalize (A ((clR (nrA T A) n).getD c 0)).l.length = ul at *
            generalize (A i).x = bx at *
            generalize (A i).y = by_ at *
            generalize (A i).l.length = vl at *
            have t0 : decide ((c : Int) < 0) = false := decide_eq_false (by omega)
            have t1 : decide (c < c) = false := decide_eq_false (by omega)
            have t2 : decide (nR ≤ c) = false := decide_eq_false (by omega)
            have t3 : ((c : Int) == (c : Int)) = true := by simp
            have t4 : decide (c < nR) = true := decide_eq_true hk
            have t5 : decide ((c : Int) < (c : Int)) = false := decide_eq_false (by omega)
            have t6 : decide ((nR : Int) ≤ (c : Int)) = false := decide_eq_false (by omega)
            obtain ⟨⟨q0, q1⟩, ⟨q2, q3, q4⟩, q5, q6, q7⟩ := HS21.out _ (Fr.refl _ _)
            go_upto_region 14 with (fail)
            go_region_held3 (fun w' => (w'.cell? ⟨o, 1, none⟩ = some (.slice (some ⟨rb, roff, none⟩) nR cr) ∧ w'.cell? ⟨w.heap.size, 0, none⟩ = some (.slice (some ⟨lb, loff, none⟩) n cap)) ∧ (w'.cell? ⟨rb, roff + c * 3, none⟩ = some (.int .i64 ax) ∧ w'.cell? ⟨rb, roff + c * 3 + 1, none⟩ = some (.int .i64 ay) ∧ w'.cell? ⟨rb, roff + c * 3 + 2, none⟩ = some (.slice ua ul uc)) ∧ (w'.cell? ⟨lb, loff + i * 3, none⟩ = some (.int .i64 bx) ∧ w'.cell? ⟨lb, loff + i * 3 + 1, none⟩ = some (.int .i64 by_) ∧ w'.cell? ⟨lb, loff + i * 3 + 2, none⟩ = some (.slice va vl vc))) (first | exact HS21.out _ (Fr.refl _ _).drew | exact HS21.out _ hf7'.out) (first | (go_at_call 23; refine (HEB.out _ (Fr.refl _ _).drew).mono ?_; rintro e w7 ⟨rfl, hf7⟩; (have hf7' : Hid (Fr (fun _ => False) wr w7) := (Fr.refl (fun _ => False) wr).drew.trans hf7 (fun _ _ h => h)); clear hf7))
            have HFS : Hid (Fr (fun _ => False) w4 w7) := F4.out.trans hf7'.out (fun _ _ h => h)
            clear q0 q1 q2 q3 q4 q5 q6 q7 t0 t1 t2 t4 t5 t6 hk F4 F2 Fw
            go_wp2_with fail
            clear p0 p1 l0 k0 t3
            go_loopg [9] (c + 1) (fun q kk wr => ∃ (k : Nat), k + q = c + 1 ∧ kk = .int .i64 (k : Int) ∧ Fr (fun _ => False) w4 wr)
            case atStart => exact ⟨0, by omega, rfl, HFS.out⟩
            case round =>
              obtain ⟨k, hkq, rfl, hfk⟩ := hrel
              have F4 : Hid (Fr (fun _ => False) w4 wr) := hfk
              have F2 : Hid (Fr (fun _ => False) w2 wr) := HF3.out.trans hfk (fun _ _ h => h)
              have Fw : Hid (Fr (fun _ => False) w wr) := HA.out.trans (HF2.out.trans F2.out (fun _ _ h => h)) (fun _ _ h => h)
              clear hfk
              by_cases hkc : k ≤ c
              · have dk : decide (k ≤ c) = true := decide_eq_true hkc
                have hk : k < nR := by omega
                have dk2 : decide (k < nR) = true := decide_eq_true hk
                have HE : Hid (nrA T A ((clR (nrA T A) n).getD k 0) i = decide (k = c)) := by
                  show _ = _
                  by_cases h : k = c
                  · subst h; rw [decide_eq_true rfl]; exact HC1.out.1
                  · rw [decide_eq_false h]; exact HC1.out.2 k (by omega)
                obtain ⟨rb', roff', har, hrc⟩ := (HRP.out wr F2.out).cells (by omega)
                obtain ⟨lb', loff', hlb, hlc⟩ := (HBP.out wr Fw.out).cells (by omega)
                cases har
                cases hlb
                obtain ⟨ua, uc, hU, -⟩ := ((HRP.out wr F2.out).ok k hk).hv
                obtain ⟨va, vc, hV, -⟩ := ((HBP.out wr Fw.out).ok i hin).hv
                have HS21 : Hid (∀ w', Fr (fun _ => False) wr w' → (w'.cell? ⟨o, 1, none⟩ = some (.slice (some ⟨rb, roff, none⟩) nR cr) ∧ w'.cell? ⟨w.heap.size, 0, none⟩ = some (.slice (some ⟨lb, loff, none⟩) n cap)) ∧ (w'.cell? ⟨rb, roff + k * 3, none⟩ = some (.int .i64 (A ((clR (nrA T A) n).getD k 0)).x) ∧ w'.cell? ⟨rb, roff + k * 3 + 1, none⟩ = some (.int .i64 (A ((clR (nrA T A) n).getD k 0)).y) ∧ w'.cell? ⟨rb, roff + k * 3 + 2, none⟩ = some (.slice ua (A ((clR (nrA T A) n).getD k 0)).l.length uc)) ∧ (w'.cell? ⟨lb, loff + i * 3, none⟩ = some (.int .i64 (A i).x) ∧ w'.cell? ⟨lb, loff + i * 3 + 1, none⟩ = some (.int .i64 (A i).y) ∧ w'.cell? ⟨lb, loff + i * 3 + 2, none⟩ = some (.slice va (A i).l.length vc))) := fun w' f => by
                  obtain ⟨⟨_, h1⟩, h0⟩ := HAL.out w' (F4.out.trans f (fun _ _ h => h))
                  have r := hrc k hk
                  have l := hlc i hin
                  rw [show (repB A (clR (nrA T A) n) U k).v = _ from hU] at r
                  rw [hV] at l
                  have lr := seen_lt r.1
                  have ll := seen_lt l.1
                  refine ⟨⟨h1, h0⟩, ⟨?_, ?_, ?_⟩, ?_, ?_, ?_⟩
                  · rw [f.cellEq lr (fun h => h)]; exact r.1
                  · rw [f.cellEq lr (fun h => h)]; exact r.2.1
                  · rw [f.cellEq lr (fun h => h)]; exact r.2.2
                  · rw [f.cellEq ll (fun h => h)]; exact l.1
                  · rw [f.cellEq ll (fun h => h)]; exact l.2.1
                  · rw [f.cellEq ll (fun h => h)]; exact l.2.2
                have HUN : Hid (∀ w', Fr (fun _ => False) wr w' → Calls Try.prog 25 #[.agg #[.int .i64 (A ((clR (nrA T A) n).getD k 0)).x, .int .i64 (A ((clR (nrA T A) n).getD k 0)).y, .slice ua (A ((clR (nrA T A) n).getD k 0)).l.length uc], .agg #[.int .i64 (A i).x, .int .i64 (A i).y, .slice va (A i).l.length vc]] w' fun e w'' => ∃ s, e = .returned (.tuple #[.float .f64 s, .int .i64 0]) ∧ (leB s T && (decide ((A ((clR (nrA T A) n).getD k 0)).x = (A i).x) && decide ((A ((clR (nrA T A) n).getD k 0)).y = (A i).y))) = decide (k = c) ∧ Fr (fun _ => False) w' w'') := fun w' f => by
                  have s1 := ((HRP.out wr F2.out).ok k hk).hv.kept f
                  have s2 := ((HBP.out wr Fw.out).ok i hin).hv.kept f
                  rw [hU] at s1
                  rw [hV] at s2
                  refine (unlike_bp _ _ (HRG.out k hk) (HG.out i hin) s1 s2).mono ?_
                  rintro e w'' ⟨x, he, hx, hf⟩
                  exact ⟨x, he, by rw [← HE.out]; exact hx T, hf⟩
                clear hrc hlc hU hV HE
                generalize (A ((clR (nrA T A) n).getD k 0)).x = ax at *
                generalize (A ((clR (nrA T A) n).getD k 0)).y = ay at *
                generalize (A ((clR (nrA T A) n).getD k 0)).l.length = ul at *
                generalize (A i).x = bx at *
                generalize (A i).y = by_ at *
                generalize (A i).l.length = vl at *
                obtain ⟨⟨q0, q1⟩, ⟨q2, q3, q4⟩, q5, q6, q7⟩ := HS21.out _ (Fr.refl _ _)
                go_upto_region 21 with (fail)
                go_region_held3 (fun w' => (w'.cell? ⟨o, 1, none⟩ = some (.slice (some ⟨rb, roff, none⟩) nR cr) ∧ w'.cell? ⟨w.heap.size, 0, none⟩ = some (.slice (some ⟨lb, loff, none⟩) n cap)) ∧ (w'.cell? ⟨rb, roff + k * 3, none⟩ = some (.int .i64 ax) ∧ w'.cell? ⟨rb, roff + k * 3 + 1, none⟩ = some (.int .i64 ay) ∧ w'.cell? ⟨rb, roff + k * 3 + 2, none⟩ = some (.slice ua ul uc)) ∧ (w'.cell? ⟨lb, loff + i * 3, none⟩ = some (.int .i64 bx) ∧ w'.cell? ⟨lb, loff + i * 3 + 1, none⟩ = some (.int .i64 by_) ∧ w'.cell? ⟨lb, loff + i * 3 + 2, none⟩ = some (.slice va vl vc))) (first | exact HS21.out _ (Fr.refl _ _).drew | exact HS21.out _ hf7'.out) (first | (go_at_call 25; refine (HUN.out _ (Fr.refl _ _).drew).mono ?_; rintro e w7 ⟨s, rfl, hs, hf7⟩; (have hf7' : Hid (Fr (fun _ => False) wr w7) := (Fr.refl (fun _ => False) wr).drew.trans hf7 (fun _ _ h => h)); (have hs' : Hid ((leB s T && (decide (ax = bx) && decide (ay = by_))) = decide (k = c)) := hs); clear hf7 hs))
                have F7 : Hid (Fr (fun _ => False) w4 w7) := F4.out.trans hf7'.out (fun _ _ h => h)
                clear q0 q1 q2 q3 q4 q5 q6 q7
                obtain ⟨⟨q0, q1⟩, ⟨q2, q3, q4⟩, q5, q6, q7⟩ := HS21.out _ hf7'.out
                go_upto_region 22 with (fail)
                have hol := o_le s T
                by_cases hkk : k = c
                · have hs2 := hs'.out
                  rw [decide_eq_true hkk, Bool.and_eq_true, Bool.and_eq_true, decide_eq_true_eq, decide_eq_true_eq] at hs2
                  obtain ⟨t1, t2, t3⟩ := hs2
                  rw [t1] at hol
                  have x1 : (ax == bx) = true := by rw [beq_iff_eq]; exact t2
                  have x2 : (ay == by_) = true := by rw [beq_iff_eq]; exact t3
                  have x3 : ((k : Int) == (c : Int)) = true := by rw [beq_iff_eq]; omega
                  clear hkk t1 t2 t3
                  go_quiet (fail)
                  have HFq : Hid (Fr (fun _ => False) w4 (w7.drewN nq)) := F7.out.drewN _
                  go_wp2_with fail
                  go_roundg (c + 1 - (k + 1))
                  case measure => omega
                  case rel => exact ⟨k + 1, by omega, by go_num, HFq.out⟩
                · have hs2 := hs'.out
                  rw [decide_eq_false hkk] at hs2
                  have x3 : ((k : Int) == (c : Int)) = false := by rw [beq_eq_false_iff_ne]; omega
                  clear hkk
                  cases hlev : leB s T
                  · rw [hlev] at hol
                    clear hlev hs2
                    go_quiet (fail)
                    have HFq : Hid (Fr (fun _ => False) w4 (w7.drewN nq)) := F7.out.drewN _
                    go_wp2_with fail
                    go_roundg (c + 1 - (k + 1))
                    case measure => omega
                    case rel => exact ⟨k + 1, by omega, by go_num, HFq.out⟩
                  · rw [hlev] at hol hs2
                    by_cases hxx : ax = bx
                    · have x1 : (ax == bx) = true := by rw [beq_iff_eq]; exact hxx
                      have x2 : (ay == by_) = false := by
                        rw [beq_eq_false_iff_ne]
                        intro h
                        rw [decide_eq_true hxx, decide_eq_true h] at hs2
                        cases hs2
                      clear hxx hlev hs2
                      go_quiet (fail)
                      have HFq : Hid (Fr (fun _ => False) w4 (w7.drewN nq)) := F7.out.drewN _
                      go_wp2_with fail
                      go_roundg (c + 1 - (k + 1))
                      case measure => omega
                      case rel => exact ⟨k + 1, by omega, by go_num, HFq.out⟩
                    · have x1 : (ax == bx) = false := by rw [beq_eq_false_iff_ne]; exact hxx
                      clear hxx hlev hs2
                      go_quiet (fail)
                      have HFq : Hid (Fr (fun _ => False) w4 (w7.drewN nq)) := F7.out.drewN _
                      go_wp2_with fail
                      go_roundg (c + 1 - (k + 1))
                      case measure => omega
                      case rel => exact ⟨k + 1, by omega, by go_num, HFq.out⟩
              · have dk : decide (k ≤ c) = false := decide_eq_false hkc
                go_wp2_with fail
                go_roundg (n - (i + 1))
                case measure => omega
                case rel => exact ⟨i + 1, by omega, by go_num, congrArg (fun x : Nat => Value.int .i64 (x : Int)) HNX.out.symm, F4.out⟩
          · have HNX : Hid ((clR (nrA T A) (i + 1)).length = (clR (nrA T A) i).length) := hnx
            rw [← hce] at hlt
            clear hce hnx s2 s3
            generalize (clC (nrA T A) n).getD i 0 = c at *
            generalize hxx : (clR (nrA T A) i).length = nx at *
            clear hxx
            have t0 : decide ((c : Int) < 0) = false := decide_eq_false (by omega)
            have t1 : decide (nx < c) = false := decide_eq_false (by omega)
            have t2 : decide (nR ≤ c) = false := decide_eq_false (by omega)
            have t3 : ((c : Int) == (nx : Int)) = false := by rw [beq_eq_false_iff_ne]; omega
            have t5 : decide ((nx : Int) < (c : Int)) = false := decide_eq_false (by omega)
            have t6 : decide ((nR : Int) ≤ (c : Int)) = false := decide_eq_false (by omega)
            go_upto_region 14 with (fail)
            go_quiet (fail)
            have HFS : Hid (Fr (fun _ => False) w4 (wr.drewN nq)) := HFr.out.drewN _
            clear t0 t1 t2 t5 t6
            go_wp2_with fail
            clear p0 p1 l0 k0 t3
            go_loopg [9] (c + 1) (fun q kk wr => ∃ (k : Nat), k + q = c + 1 ∧ kk = .int .i64 (k : Int) ∧ Fr (fun _ => False) w4 wr)
            case atStart => exact ⟨0, by omega, rfl, HFS.out⟩
            case round =>
              obtain ⟨k, hkq, rfl, hfk⟩ := hrel
              have F4 : Hid (Fr (fun _ => False) w4 wr) := hfk
              have F2 : Hid (Fr (fun _ => False) w2 wr) := HF3.out.trans hfk (fun _ _ h => h)
              have Fw : Hid (Fr (fun _ => False) w wr) := HA.out.trans (HF2.out.trans F2.out (fun _ _ h => h)) (fun _ _ h => h)
              clear hfk
              by_cases hkc : k ≤ c
              · have dk : decide (k ≤ c) = true := decide_eq_true hkc
                have hk : k < nR := by omega
                have dk2 : decide (k < nR) = true := decide_eq_true hk
                have HE : Hid (nrA T A ((clR (nrA T A) n).getD k 0) i = decide (k = c)) := by
                  show _ = _
                  by_cases h : k = c
                  · subst h; rw [decide_eq_true rfl]; exact HC1.out.1
                  · rw [decide_eq_false h]; exact HC1.out.2 k (by omega)
                obtain ⟨rb, roff, har, hrc⟩ := (HRP.out wr F2.out).cells (by omega)
                obtain ⟨lb, loff, hlb, hlc⟩ := (HBP.out wr Fw.out).cells (by omega)
                subst har hlb
                obtain ⟨ua, uc, hU, -⟩ := ((HRP.out wr F2.out).ok k hk).hv
                obtain ⟨va, vc, hV, -⟩ := ((HBP.out wr Fw.out).ok i hin).hv
                have HS21 : Hid (∀ w', Fr (fun _ => False) wr w' → (w'.cell? ⟨o, 1, none⟩ = some (.slice (some ⟨rb, roff, none⟩) nR cr) ∧ w'.cell? ⟨w.heap.size, 0, none⟩ = some (.slice (some ⟨lb, loff, none⟩) n cap)) ∧ (w'.cell? ⟨rb, roff + k * 3, none⟩ = some (.int .i64 (A ((clR (nrA T A) n).getD k 0)).x) ∧ w'.cell? ⟨rb, roff + k * 3 + 1, none⟩ = some (.int .i64 (A ((clR (nrA T A) n).getD k 0)).y) ∧ w'.cell? ⟨rb, roff + k * 3 + 2, none⟩ = some (.slice ua (A ((clR (nrA T A) n).getD k 0)).l.length uc)) ∧ (w'.cell? ⟨lb, loff + i * 3, none⟩ = some (.int .i64 (A i).x) ∧ w'.cell? ⟨lb, loff + i * 3 + 1, none⟩ = some (.int .i64 (A i).y) ∧ w'.cell? ⟨lb, loff + i * 3 + 2, none⟩ = some (.slice va (A i).l.length vc))) := fun w' f => by
                  obtain ⟨⟨_, h1⟩, h0⟩ := HAL.out w' (F4.out.trans f (fun _ _ h => h))
                  have r := hrc k hk
                  have l := hlc i hin
                  rw [show (repB A (clR (nrA T A) n) U k).v = _ from hU] at r
                  rw [hV] at l
                  have lr := seen_lt r.1
                  have ll := seen_lt l.1
                  refine ⟨⟨h1, h0⟩, ⟨?_, ?_, ?_⟩, ?_, ?_, ?_⟩
                  · rw [f.cellEq lr (fun h => h)]; exact r.1
                  · rw [f.cellEq lr (fun h => h)]; exact r.2.1
                  · rw [f.cellEq lr (fun h => h)]; exact r.2.2
                  · rw [f.cellEq ll (fun h => h)]; exact l.1
                  · rw [f.cellEq ll (fun h => h)]; exact l.2.1
                  · rw [f.cellEq ll (fun h => h)]; exact l.2.2
                have HUN : Hid (∀ w', Fr (fun _ => False) wr w' → Calls Try.prog 25 #[.agg #[.int .i64 (A ((clR (nrA T A) n).getD k 0)).x, .int .i64 (A ((clR (nrA T A) n).getD k 0)).y, .slice ua (A ((clR (nrA T A) n).getD k 0)).l.length uc], .agg #[.int .i64 (A i).x, .int .i64 (A i).y, .slice va (A i).l.length vc]] w' fun e w'' => ∃ s, e = .returned (.tuple #[.float .f64 s, .int .i64 0]) ∧ (leB s T && (decide ((A ((clR (nrA T A) n).getD k 0)).x = (A i).x) && decide ((A ((clR (nrA T A) n).getD k 0)).y = (A i).y))) = decide (k = c) ∧ Fr (fun _ => False) w' w'') := fun w' f => by
                  have s1 := ((HRP.out wr F2.out).ok k hk).hv.kept f
                  have s2 := ((HBP.out wr Fw.out).ok i hin).hv.kept f
                  rw [hU] at s1
                  rw [hV] at s2
                  refine (unlike_bp _ _ (HRG.out k hk) (HG.out i hin) s1 s2).mono ?_
                  rintro e w'' ⟨x, he, hx, hf⟩
                  exact ⟨x, he, by rw [← HE.out]; exact hx T, hf⟩
                clear hrc hlc hU hV HE
                generalize (A ((clR (nrA T A) n).getD k 0)).x = ax at *
                generalize (A ((clR (nrA T A) n).getD k 0)).y = ay at *
                generalize (A ((clR (nrA T A) n).getD k 0)).l.length = ul at *
                generalize (A i).x = bx at *
                generalize (A i).y = by_ at *
                generalize (A i).l.length = vl at *
                obtain ⟨⟨q0, q1⟩, ⟨q2, q3, q4⟩, q5, q6, q7⟩ := HS21.out _ (Fr.refl _ _)
                go_upto_region 21 with (fail)
                go_region_held3 (fun w' => (w'.cell? ⟨o, 1, none⟩ = some (.slice (some ⟨rb, roff, none⟩) nR cr) ∧ w'.cell? ⟨w.heap.size, 0, none⟩ = some (.slice (some ⟨lb, loff, none⟩) n cap)) ∧ (w'.cell? ⟨rb, roff + k * 3, none⟩ = some (.int .i64 ax) ∧ w'.cell? ⟨rb, roff + k * 3 + 1, none⟩ = some (.int .i64 ay) ∧ w'.cell? ⟨rb, roff + k * 3 + 2, none⟩ = some (.slice ua ul uc)) ∧ (w'.cell? ⟨lb, loff + i * 3, none⟩ = some (.int .i64 bx) ∧ w'.cell? ⟨lb, loff + i * 3 + 1, none⟩ = some (.int .i64 by_) ∧ w'.cell? ⟨lb, loff + i * 3 + 2, none⟩ = some (.slice va vl vc))) (first | exact HS21.out _ (Fr.refl _ _).drew | exact HS21.out _ hf7'.out) (first | (go_at_call 25; refine (HUN.out _ (Fr.refl _ _).drew).mono ?_; rintro e w7 ⟨s, rfl, hs, hf7⟩; (have hf7' : Hid (Fr (fun _ => False) wr w7) := (Fr.refl (fun _ => False) wr).drew.trans hf7 (fun _ _ h => h)); (have hs' : Hid ((leB s T && (decide (ax = bx) && decide (ay = by_))) = decide (k = c)) := hs); clear hf7 hs))
                have F7 : Hid (Fr (fun _ => False) w4 w7) := F4.out.trans hf7'.out (fun _ _ h => h)
                clear q0 q1 q2 q3 q4 q5 q6 q7
                obtain ⟨⟨q0, q1⟩, ⟨q2, q3, q4⟩, q5, q6, q7⟩ := HS21.out _ hf7'.out
                go_upto_region 22 with (fail)
                have hol := o_le s T
                by_cases hkk : k = c
                · have hs2 := hs'.out
                  rw [decide_eq_true hkk, Bool.and_eq_true, Bool.and_eq_true, decide_eq_true_eq, decide_eq_true_eq] at hs2
                  obtain ⟨t1, t2, t3⟩ := hs2
                  rw [t1] at hol
                  have x1 : (ax == bx) = true := by rw [beq_iff_eq]; exact t2
                  have x2 : (ay == by_) = true := by rw [beq_iff_eq]; exact t3
                  have x3 : ((k : Int) == (c : Int)) = true := by rw [beq_iff_eq]; omega
                  clear hkk t1 t2 t3
                  go_quiet (fail)
                  have HFq : Hid (Fr (fun _ => False) w4 (w7.drewN nq)) := F7.out.drewN _
                  go_wp2_with fail
                  go_roundg (c + 1 - (k + 1))
                  case measure => omega
                  case rel => exact ⟨k + 1, by omega, by go_num, HFq.out⟩
                · have hs2 := hs'.out
                  rw [decide_eq_false hkk] at hs2
                  have x3 : ((k : Int) == (c : Int)) = false := by rw [beq_eq_false_iff_ne]; omega
                  clear hkk
                  cases hlev : leB s T
                  · rw [hlev] at hol
                    clear hlev hs2
                    go_quiet (fail)
                    have HFq : Hid (Fr (fun _ => False) w4 (w7.drewN nq)) := F7.out.drewN _
                    go_wp2_with fail
                    go_roundg (c + 1 - (k + 1))
                    case measure => omega
                    case rel => exact ⟨k + 1, by omega, by go_num, HFq.out⟩
                  · rw [hlev] at hol hs2
                    by_cases hxx : ax = bx
                    · have x1 : (ax == bx) = true := by rw [beq_iff_eq]; exact hxx
                      have x2 : (ay == by_) = false := by
                        rw [beq_eq_false_iff_ne]
                        intro h
                        rw [decide_eq_true hxx, decide_eq_true h] at hs2
                        cases hs2
                      clear hxx hlev hs2
                      go_quiet (fail)
                      have HFq : Hid (Fr (fun _ => False) w4 (w7.drewN nq)) := F7.out.drewN _
                      go_wp2_with fail
                      go_roundg (c + 1 - (k + 1))
                      case measure => omega
                      case rel => exact ⟨k + 1, by omega, by go_num, HFq.out⟩
                    · have x1 : (ax == bx) = false := by rw [beq_eq_false_iff_ne]; exact hxx
                      clear hxx hlev hs2
                      go_quiet (fail)
                      have HFq : Hid (Fr (fun _ => False) w4 (w7.drewN nq)) := F7.out.drewN _
                      go_wp2_with fail
                      go_roundg (c + 1 - (k + 1))
                      case measure => omega
                      case rel => exact ⟨k + 1, by omega, by go_num, HFq.out⟩
              · have dk : decide (k ≤ c) = false := decide_eq_false hkc
                go_wp2_with fail
                go_roundg (n - (i + 1))
                case measure => omega
                case rel => exact ⟨i + 1, by omega, by go_num, congrArg (fun x : Nat => Value.int .i64 (x : Int)) HNX.out.symm, F4.out⟩

        · have di : decide (i < n) = false := decide_eq_false hin
          have hi : i = n := by omega
          have HNX : Hid ((clR (nrA T A) i).length = nR) := by rw [hi]; exact HNR.out
          rw [HNX.out]
          clear hi
          have e1 : ((nR : Int) == (nR : Int)) = true := by simp
          go_wp2_with fail
          refine (HC2.out _ HF2r.out).mono ?_
          rintro e w6 ⟨ac2, cc2, ar2, cr2, rfl, hf6⟩
          have HF6 : Hid (Fr (fun _ => False) w4 (w6.alloc (.cells #[.slice ac2 nR cc2, .slice ar2 nR cr2] 33))) := (HFr.out.trans hf6 (fun _ _ h => h)).alloc _
          have HFz : Hid (Fr (fun _ => False) w (w6.alloc (.cells #[.slice ac2 nR cc2, .slice ar2 nR cr2] 33))) := (HFw.out.trans hf6 (fun _ _ h => h)).alloc _
          clear hf6 p0 p1 l0
          obtain ⟨⟨p0, p1⟩, -⟩ := HAL.out _ HF6.out
          go_wp2_with fail
          refine (wakes_any _).mono ?_
          rintro e w8 ⟨rfl, hf8⟩
          have HF8 : Hid (Fr (fun _ => False) w w8) := HFz.out.trans hf8 (fun _ _ h => h)
          clear hf8
          go_wp2_with fail
          go_ret
          exact ⟨rfl, HF8.out⟩

end Go.Proofs.Ytodgdbbhllejkaa
