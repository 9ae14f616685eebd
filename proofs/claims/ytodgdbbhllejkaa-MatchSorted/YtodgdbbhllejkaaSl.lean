/- 'MatchSorted': all numbers, each once, by height, then width, then number. -/
import Derived.Test.YtodgdbbhllejkaaWk
import Derived.Test.YtodgdbbhllejkaaLi
namespace Go.Proofs.Ytodgdbbhllejkaa
open Go.RowKit

/-- Flags as cells. -/
def boolCells (f : Nat → Bool) (n : Nat) : List Value := (List.range n).map fun j => .bool (f j)
theorem boolCells_get (f : Nat → Bool) {n j : Nat} (h : j < n) : (boolCells f n)[j]? = some (.bool (f j)) := by
  unfold boolCells
  rw [List.getElem?_map, List.getElem?_range h]; rfl
theorem boolCells_set (f : Nat → Bool) {n q : Nat} (h : q < n) : (boolCells f n).set q (.bool true) = boolCells (fun j => f j || decide (j = q)) n := by
  apply List.ext_getElem?
  intro j
  unfold boolCells
  by_cases hj : j = q
  · subst hj
    rw [List.getElem?_set_self (by simpa using h), List.getElem?_map, List.getElem?_range h]
    simp
  · rw [List.getElem?_set_ne (fun e => hj e.symm), List.getElem?_map, List.getElem?_map]
    by_cases h2 : j < n
    · rw [List.getElem?_range h2]; simp [hj]
    · rw [List.getElem?_eq_none (by simpa using h2)]; rfl
theorem boolCells_false (n : Nat) : List.replicate n (Value.bool false) = boolCells (fun _ => false) n := by
  unfold boolCells
  rw [List.map_const', List.length_range]
theorem Try.infoBool : (Try.prog.info? 4).map (fun i => (i.zero, i.size, i.bytes)) = some (some (.bool false), 1, 1) := by kernel_rfl

theorem perm_facts {O : List Nat} {n : Nat} (hp : O.Perm (List.range n)) : O.length = n ∧ (∀ i, i < n → O.getD i 0 < n) ∧ ∀ i j, i < n → j < n → O.getD i 0 = O.getD j 0 → i = j := by
  have hl : O.length = n := by rw [hp.length_eq, List.length_range]
  have hnd := hp.nodup_iff.2 List.nodup_range
  refine ⟨hl, fun i hi => ?_, fun i j hi hj e => ?_⟩
  · have hm : O.getD i 0 ∈ O := by rw [List.getD_eq_getElem?_getD, List.getElem?_eq_getElem (by omega)]; exact List.getElem_mem _
    exact List.mem_range.1 (hp.subset hm)
  · rw [List.getD_eq_getElem?_getD, List.getD_eq_getElem?_getD, List.getElem?_eq_getElem (by omega), List.getElem?_eq_getElem (by omega)] at e
    rcases Nat.lt_trichotomy i j with h | h | h
    · exact absurd e (List.pairwise_iff_getElem.1 hnd i j (by omega) (by omega) h)
    · exact h
    · exact absurd e.symm (List.pairwise_iff_getElem.1 hnd j i (by omega) (by omega) h)
/-- Is j among the first i? -/
def snB (O : List Nat) (i j : Nat) : Bool := (O.take i).contains j
theorem snB_succ (O : List Nat) {i : Nat} (h : i < O.length) (j : Nat) : (snB O i j || decide (j = O.getD i 0)) = snB O (i + 1) j := by
  unfold snB
  have e : O.take (i + 1) = O.take i ++ [O[i]] := by rw [List.take_add_one, List.getElem?_eq_getElem h]; rfl
  rw [List.getD_eq_getElem?_getD, List.getElem?_eq_getElem h, Bool.eq_iff_iff, Bool.or_eq_true, List.contains_iff_mem, List.contains_iff_mem, decide_eq_true_eq, e, List.mem_append, List.mem_singleton]
  rfl
theorem snB_no {O : List Nat} {n i : Nat} (hl : O.length = n) (h3 : ∀ i j, i < n → j < n → O.getD i 0 = O.getD j 0 → i = j) (h : i < n) : snB O i (O.getD i 0) = false := by
  unfold snB
  cases hc : (O.take i).contains (O.getD i 0) with
  | false => rfl
  | true =>
    have hm : O.getD i 0 ∈ O.take i := by simpa using hc
    obtain ⟨k, hk, e⟩ := List.getElem_of_mem hm
    have hk' : k < i := by rw [List.length_take] at hk; omega
    rw [List.getElem_take] at e
    have := h3 k i (by omega) h (by rw [List.getD_eq_getElem?_getD, List.getElem?_eq_getElem (by omega)]; exact e)
    omega

set_option maxRecDepth 100000 in
set_option maxHeartbeats 8000000 in
theorem sortedLaw_any (ao : Option Addr) (n cap : Nat) (A : Nat → Bp) (w : World) (hB : BpsAt w ao n A) :
    Calls Try.prog 7 #[.slice ao n cap] w fun e w' => e = .returned (.bool true) ∧ Fr (fun _ => False) w w' := by
  obtain ⟨j0, hj, hy0, hy1, hy2⟩ := info_parts Try.infoBool
  have HBP : Hid (∀ w', Fr (fun _ => False) w w' → BpsAt w' ao n A) := fun w' f => hB.kept f
  have hn := hB.len
  clear hB
  go_enter Try.func7, Try.ntmps7
  go_wp2_with fail
  refine (mays_any ao n cap A _ (HBP.out _ (Fr.refl _ _))).mono ?_
  rintro e w1 ⟨bb, rfl, hbb, hf1⟩
  have HF1 : Hid (Fr (fun _ => False) w w1) := hf1
  clear hf1
  cases bb
  · go_wp2_with fail
    refine (wakes_any _).mono ?_
    rintro e w2 ⟨rfl, hf2⟩
    have HF2 : Hid (Fr (fun _ => False) w w2) := HF1.out.trans hf2 (fun _ _ h => h)
    clear hf2
    go_wp2_with fail
    go_ret
    exact ⟨rfl, HF2.out⟩
  · obtain ⟨hn40, hall⟩ := hbb rfl
    have HOR : Hid _ := order_ok ao n cap A w1 (HBP.out _ HF1.out) (by omega) hall
    clear hbb hall
    go_wp2_with fail
    refine Calls.mono HOR.out ?_
    rintro e w2 ⟨v, O, rfl, hov, hp, hs, hf2⟩
    obtain ⟨av, cv, hvv⟩ := own_slice hov
    subst hvv
    obtain ⟨p1, p2, p3⟩ := perm_facts hp
    have HF2 : Hid (Fr (fun _ => False) w w2) := HF1.out.trans hf2 (fun _ _ h => h)
    have HOV : Hid (∀ w', Fr (fun _ => False) w2 w' → ∀ i, i < n → ∃ go, av = some ⟨go, 0, none⟩ ∧ w'.cell? ⟨go, i, none⟩ = some (.int .i64 ((O.getD i 0 : Nat) : Int))) := fun w' f i hi => by
      have hr := row_kept hov f (fun _ _ h => h)
      obtain ⟨go, cc', e, _⟩ := row_form hr (by omega)
      cases e
      exact ⟨go, rfl, (hr.cellAt i (by omega)).trans (intCells_get _ (by omega))⟩
    have HLN : Hid (O.length = n) := p1
    have HP2 : Hid (∀ i, i < n → O.getD i 0 < n) := p2
    have HP3 : Hid (∀ i j, i < n → j < n → O.getD i 0 = O.getD j 0 → i = j) := p3
    have HSO : Hid (∀ i, i + 1 < n → ltO A (O.getD (i + 1) 0) (O.getD i 0) = false) := fun i hi => by
      have := List.pairwise_iff_getElem.1 hs i (i + 1) (by omega) (by omega) (by omega)
      rw [List.getD_eq_getElem?_getD, List.getD_eq_getElem?_getD, List.getElem?_eq_getElem (by omega), List.getElem?_eq_getElem (by omega)]
      exact this
    have hnn : ((n : Int) != (n : Int)) = false := by simp
    clear hov hp hs hf2 p1 p2 p3 HOR
    go_wp2_with (first | (at_make; refine wpList_make_full _ rfl _ _ 52 rfl 0 4 j0 (.bool false) 1 Try.underlying52 hj hy0 hy1 .i64 .i64 _ _ n rfl rfl ?_ ?_ ?_ ?_ ?_ ?_))
    · rfl
    · rfl
    · rw [hy2]; omega
    · unfold maxLen; omega
    · omega
    · intro w3 hown hgrow
      have HF23 : Hid (Fr (fun _ => False) w2 w3) := (Fr.refl (fun _ => False) w2).grown hgrow (fun _ e _ => by cases e)
      have HSE : Hid (w3.ownsRow 0 4 1 (.slice (some ⟨w2.heap.size, 0, none⟩) n n) n (boolCells (fun _ => false) n)) := by
        rw [toList_madeCells_one, boolCells_false] at hown
        exact hown
      clear hown hgrow
      have hsw := HF2.out.size
      have HG2 : Hid (w2.heap.size ≤ w2.heap.size) := Nat.le_refl _
      generalize hgs : w2.heap.size = gs at *
      have HGS : Hid (w2.heap.size = gs) := hgs
      clear hgs
      go_wp2_with fail
      go_loopg [6] n (fun q ii wr => ∃ (i : Nat), i + q = n ∧ ii = .int .i64 (i : Int) ∧ wr.ownsRow 0 4 1 (.slice (some ⟨gs, 0, none⟩) n n) n (boolCells (snB O i) n) ∧ Fr (fun _ => False) w2 wr)
      case atStart => exact ⟨0, by omega, rfl, HSE.out, HF23.out⟩
      case round =>
        obtain ⟨i, hiq, rfl, hse, hfr⟩ := hrel
        have HS : Hid (wr.ownsRow 0 4 1 (.slice (some ⟨gs, 0, none⟩) n n) n (boolCells (snB O i) n)) := hse
        have HFr : Hid (Fr (fun _ => False) w2 wr) := hfr
        clear hse hfr
        by_cases hin : i < n
        · have di : decide (i < n) = true := decide_eq_true hin
          obtain ⟨go, hav, k0⟩ := HOV.out wr HFr.out i hin
          subst hav
          have hqn := HP2.out i hin
          have c1 : wr.cell? ⟨gs, O.getD i 0, none⟩ = some (.bool false) := by
            rw [World.ownsRow.cellAt HS.out _ (by omega), boolCells_get _ hqn]
            rw [snB_no HLN.out HP3.out hin]
          have z1 : wr.frozen? ⟨gs, O.getD i 0, none⟩ = false := World.ownsRow.frozenAt HS.out _
          have HS2 : Hid ((wr.setCell ⟨gs, O.getD i 0, none⟩ (.bool true)).ownsRow 0 4 1 (.slice (some ⟨gs, 0, none⟩) n n) n (boolCells (snB O (i + 1)) n)) := by
            have := (World.ownsRow.stored HS.out (O.getD i 0) (.bool true)).1
            rw [boolCells_set _ hqn] at this
            have e : (fun j => snB O i j || decide (j = O.getD i 0)) = snB O (i + 1) := funext fun j => snB_succ O (by rw [HLN.out]; exact hin) j
            rw [e] at this
            exact this
          have HF6 : Hid (Fr (fun _ => False) w2 (wr.setCell ⟨gs, O.getD i 0, none⟩ (.bool true))) := HFr.out.setCell (p := ⟨gs, O.getD i 0, none⟩) (fun h => by have : gs < w2.heap.size := h; have := HGS.out; omega) _
          have HB6 : Hid (∀ w', Fr (fun _ => False) w2 w' → BpsAt w' ao n A) := fun w' f => HBP.out w' (HF2.out.trans f (fun _ _ h => h))
          have dq : decide ((O.getD i 0 : Int) < 0) = false := decide_eq_false (by omega)
          have dq2 : decide ((n : Int) ≤ (O.getD i 0 : Int)) = false := decide_eq_false (by omega)
          have hq0 : ¬ ((O.getD i 0 : Nat) : Int) < 0 := by omega
          have hq1 : ¬ (n : Int) ≤ ((O.getD i 0 : Nat) : Int) := by omega
          have dq3 : decide (O.getD i 0 < n) = true := decide_eq_true hqn
          by_cases hi0 : i = 0
          · have he0 : ((i : Int) == 0) = true := by rw [beq_iff_eq]; omega
            clear hi0
            generalize O.getD i 0 = q at *
            go_wp2_with fail
            go_roundg (n - (i + 1))
            case measure => omega
            case rel => exact ⟨i + 1, by omega, by go_num, HS2.out, HF6.out⟩
          · have he0 : ((i : Int) == 0) = false := by rw [beq_eq_false_iff_ne]; omega
            obtain ⟨i', hi'⟩ : ∃ i', i = i' + 1 := ⟨i - 1, by omega⟩
            have hi1 : (i : Int) - 1 = (i' : Int) := by omega
            have hw1 : IntKind.i64.wrap (i' : Int) = (i' : Int) := by rw [IntKind.wrap_i64]; omega
            have hw2 : wrap64 ((i : Int) - 1) = (i' : Int) := by unfold wrap64; omega
            obtain ⟨go', hav', kp⟩ := HOV.out wr HFr.out i' (by omega)
            cases hav'
            have hpn := HP2.out i' (by omega)
            have dp : decide (O.getD i' 0 < n) = true := decide_eq_true hpn
            have di' : decide (i' < n) = true := decide_eq_true (by omega)
            have hlt := HSO.out i' (by omega)
            rw [← hi'] at hlt
            unfold ltO at hlt
            rw [decide_eq_false_iff_not] at hlt
            obtain ⟨b, off, hao, hcc⟩ := (HBP.out w (Fr.refl _ _)).cells (by omega)
            subst hao
            have hblt := seen_lt (hcc 0 (by omega)).1
            obtain ⟨ap, cp, hvp, -⟩ := ((HBP.out w (Fr.refl _ _)).ok _ hpn).hv
            obtain ⟨aq, cq, hvq, -⟩ := ((HBP.out w (Fr.refl _ _)).ok _ hqn).hv
            have HCS : Hid (∀ w', Fr (fun _ => False) w2 w' → (w'.cell? ⟨go, i', none⟩ = some (.int .i64 ((O.getD i' 0 : Nat) : Int)) ∧ w'.cell? ⟨go, i, none⟩ = some (.int .i64 ((O.getD i 0 : Nat) : Int))) ∧ (w'.cell? ⟨b, off + O.getD i' 0 * 3, none⟩ = some (.int .i64 (A (O.getD i' 0)).x) ∧ w'.cell? ⟨b, off + O.getD i' 0 * 3 + 1, none⟩ = some (.int .i64 (A (O.getD i' 0)).y) ∧ w'.cell? ⟨b, off + O.getD i' 0 * 3 + 2, none⟩ = some (.slice ap (A (O.getD i' 0)).l.length cp)) ∧ (w'.cell? ⟨b, off + O.getD i 0 * 3, none⟩ = some (.int .i64 (A (O.getD i 0)).x) ∧ w'.cell? ⟨b, off + O.getD i 0 * 3 + 1, none⟩ = some (.int .i64 (A (O.getD i 0)).y) ∧ w'.cell? ⟨b, off + O.getD i 0 * 3 + 2, none⟩ = some (.slice aq (A (O.getD i 0)).l.length cq))) := fun w' f => by
              have f' := HF2.out.trans f (fun _ _ h => h)
              obtain ⟨g1, e1, h1⟩ := HOV.out w' f i' (by omega)
              obtain ⟨g2, e2, h2⟩ := HOV.out w' f i hin
              cases e1
              cases e2
              refine ⟨⟨h1, h2⟩, ⟨?_, ?_, ?_⟩, ?_, ?_, ?_⟩ <;> rw [f'.cellEq hblt (fun h => h)]
              · exact (hcc _ hpn).1
              · exact (hcc _ hpn).2.1
              · rw [(hcc _ hpn).2.2, hvp]
              · exact (hcc _ hqn).1
              · exact (hcc _ hqn).2.1
              · rw [(hcc _ hqn).2.2, hvq]
            obtain ⟨⟨o1, o2⟩, ⟨x1, x2, x3⟩, y1, y2, y3⟩ := HCS.out _ HF6.out
            have HLT : Hid _ := hlt
            clear hi0 hi' hcc hvp hvq hlt
            generalize (A (O.getD i' 0)).x = xp at *
            generalize (A (O.getD i' 0)).y = yp at *
            generalize (A (O.getD i' 0)).l.length = np at *
            generalize (A (O.getD i 0)).x = xq at *
            generalize (A (O.getD i 0)).y = yq at *
            generalize (A (O.getD i 0)).l.length = nq' at *
            generalize O.getD i' 0 = p at *
            generalize O.getD i 0 = q at *
            go_upto_region 13 with (fail)
            generalize wr.setCell ⟨gs, q, none⟩ (.bool true) = wS at *
            clear c1 z1 k0 kp
            have HFA : Hid (Fr (fun _ => False) w2 ((wS.alloc (.cells #[.int .i64 xp, .int .i64 yp, .slice ap np cp] 48)).alloc (.cells #[.int .i64 xq, .int .i64 yq, .slice aq nq' cq] 48))) := (HF6.out.alloc _).alloc _
            have HSA : Hid (((wS.alloc (.cells #[.int .i64 xp, .int .i64 yp, .slice ap np cp] 48)).alloc (.cells #[.int .i64 xq, .int .i64 yq, .slice aq nq' cq] 48)).ownsRow 0 4 1 (.slice (some ⟨gs, 0, none⟩) n n) n (boolCells (snB O (i + 1)) n)) := row_kept HS2.out (((Fr.refl (fun _ => False) wS).alloc _).alloc _) (fun _ _ h => h)
            obtain ⟨⟨o3, o4⟩, ⟨x4, x5, x6⟩, y4, y5, y6⟩ := HCS.out _ (HF6.out.alloc (.cells #[.int .i64 xp, .int .i64 yp, .slice ap np cp] 48))
            obtain ⟨⟨o5, o6⟩, -, -⟩ := HCS.out _ HFA.out
            obtain ⟨m1, m2, m3, -⟩ := cell_of_three (blkUp (heap_alloc_new wS (.cells #[.int .i64 xp, .int .i64 yp, .slice ap np cp] 48)) (.cells #[.int .i64 xq, .int .i64 yq, .slice aq nq' cq] 48))
            obtain ⟨m4, m5, m6, -⟩ : ((wS.alloc (.cells #[.int .i64 xp, .int .i64 yp, .slice ap np cp] 48)).alloc (.cells #[.int .i64 xq, .int .i64 yq, .slice aq nq' cq] 48)).cell? ⟨wS.heap.size + 1, 0, none⟩ = some (.int .i64 xq) ∧ ((wS.alloc (.cells #[.int .i64 xp, .int .i64 yp, .slice ap np cp] 48)).alloc (.cells #[.int .i64 xq, .int .i64 yq, .slice aq nq' cq] 48)).cell? ⟨wS.heap.size + 1, 1, none⟩ = some (.int .i64 yq) ∧ ((wS.alloc (.cells #[.int .i64 xp, .int .i64 yp, .slice ap np cp] 48)).alloc (.cells #[.int .i64 xq, .int .i64 yq, .slice aq nq' cq] 48)).cell? ⟨wS.heap.size + 1, 2, none⟩ = some (.slice aq nq' cq) ∧ True := by
              have h := heap_alloc_new (wS.alloc (.cells #[.int .i64 xp, .int .i64 yp, .slice ap np cp] 48)) (.cells #[.int .i64 xq, .int .i64 yq, .slice aq nq' cq] 48)
              rw [World.size_alloc] at h
              obtain ⟨a, b, c, _⟩ := cell_of_three h
              exact ⟨a, b, c, trivial⟩
            go_upto_region 16 with (fail)
            generalize (wS.alloc (.cells #[.int .i64 xp, .int .i64 yp, .slice ap np cp] 48)).alloc (.cells #[.int .i64 xq, .int .i64 yq, .slice aq nq' cq] 48) = wA at *
            clear o1 o2 o3 o4 x1 x2 x3 x4 x5 x6 y1 y2 y3 y4 y5 y6 m3 m6
            have t1 : decide (yq < yp) = false := decide_eq_false (fun h => HLT.out (Or.inl h))
            by_cases hyy : yp = yq
            · have t2 : (yp == yq) = true := by rw [beq_iff_eq]; exact hyy
              have t3 : decide (xq < xp) = false := decide_eq_false (fun h => HLT.out (Or.inr ⟨hyy.symm, Or.inl h⟩))
              by_cases hxx : xp = xq
              · have t4 : (xp == xq) = true := by rw [beq_iff_eq]; exact hxx
                have t5 : decide ((q : Int) < (p : Int)) = false := decide_eq_false (fun h => HLT.out (Or.inr ⟨hyy.symm, Or.inr ⟨hxx.symm, by omega⟩⟩))
                have t6 : decide (q < p) = false := decide_eq_false (fun h => HLT.out (Or.inr ⟨hyy.symm, Or.inr ⟨hxx.symm, h⟩⟩))
                clear hyy hxx
                go_quiet (fail)
                go_wp2_with fail
                go_roundg (n - (i + 1))
                case measure => omega
                case rel => exact ⟨i + 1, by omega, by go_num, HSA.out, HFA.out.drewN _⟩
              · have t4 : (xp == xq) = false := by rw [beq_eq_false_iff_ne]; exact hxx
                clear hyy hxx
                go_quiet (fail)
                go_wp2_with fail
                go_roundg (n - (i + 1))
                case measure => omega
                case rel => exact ⟨i + 1, by omega, by go_num, HSA.out, HFA.out.drewN _⟩
            · have t2 : (yp == yq) = false := by rw [beq_eq_false_iff_ne]; exact hyy
              clear hyy
              go_quiet (fail)
              go_wp2_with fail
              go_roundg (n - (i + 1))
              case measure => omega
              case rel => exact ⟨i + 1, by omega, by go_num, HSA.out, HFA.out.drewN _⟩
        · have di : decide (i < n) = false := decide_eq_false hin
          go_wp2_with fail
          refine (wakes_any _).mono ?_
          rintro e w4 ⟨rfl, hf4⟩
          have HF4 : Hid (Fr (fun _ => False) w w4) := (HF2.out.trans HFr.out (fun _ _ h => h)).trans hf4 (fun _ _ h => h)
          clear hf4
          go_wp2_with fail
          go_ret
          exact ⟨rfl, HF4.out⟩
end Go.Proofs.Ytodgdbbhllejkaa
