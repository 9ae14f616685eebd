/- The document's own 'Of'. -/
import Derived.Test.YthliacfkmpijmaaRd
namespace Go.Proofs.Ythliacfkmpijmaa
open Go.RowKit

theorem runCells_set (l : List (Nat × Nat)) (a b c : Nat) : (runCells (l ++ [(a, b)])).set (l.length * 2 + 1) (.int .i64 (c : Int)) = runCells (l ++ [(a, c)]) := by
  rw [runCells_append, runCells_append, runCells_one, runCells_one]
  rw [List.set_append_right _ _ (by rw [length_runCells]; omega), length_runCells, Nat.add_sub_cancel_left]
  rfl

/-- Rows that are appended: the slice v holds k slices of runs. -/
structure AppRR (w : World) (base : Nat) (v : Value) (k : Nat) (L : Nat → List (Nat × Nat)) (vs : List Value) : Prop where
  own : w.ownsRow base 33 1 v k vs
  at_ : ∀ y, y < k → w.ownsRow base 35 2 (vs[y]?.getD (.slice none 0 0)) (L y).length (runCells (L y))
theorem AppRR.kept {S : Nat → Prop} {w w' : World} {base k : Nat} {v : Value} {L : Nat → List (Nat × Nat)} {vs : List Value} (h : AppRR w base v k L vs) (f : Fr S w w') (hs : ∀ i, S i → base ≤ i → ¬ (v.ownBlock = some i) ∧ ∀ y, y < k → ¬ ((vs[y]?.getD (.slice none 0 0)).ownBlock = some i)) : AppRR w' base v k L vs :=
  ⟨row_kept h.own f (fun i hi hS => (hs i hS (h.own.lt i hi).1).1 hi), fun y hy => row_kept (h.at_ y hy) f (fun i hi hS => (hs i hS ((h.at_ y hy).lt i hi).1).2 y hy hi)⟩
theorem AppRR.low {w : World} {base b' k : Nat} {v : Value} {L : Nat → List (Nat × Nat)} {vs : List Value} (h : AppRR w base v k L vs) (hb : b' ≤ base) : AppRR w b' v k L vs :=
  ⟨ownsRow_base h.own (fun i hi => Nat.le_trans hb (h.own.lt i hi).1), fun y hy => ownsRow_base (h.at_ y hy) (fun i hi => Nat.le_trans hb ((h.at_ y hy).lt i hi).1)⟩
theorem AppRR.seen {w : World} {base k : Nat} {v : Value} {L : Nat → List (Nat × Nat)} {vs : List Value} (h : AppRR w base v k L vs) (hH : k ≤ 9223372036854775807) (hl : ∀ y, y < k → (L y).length ≤ 9223372036854775807) : SeenRR w v (upRows k L) := by
  have hlen := h.own.1
  rcases h.own.2 with ⟨rfl, e⟩ | ⟨g, cap, cur, rfl, _⟩
  · subst e
    exact ⟨none, 0, rfl, by simp [upRows], fun hn => absurd rfl hn⟩
  · refine ⟨some ⟨g, 0, none⟩, cap, by rw [length_upRows], by rw [length_upRows]; exact hH, fun _ => ⟨g, 0, rfl, fun y hy => ?_⟩⟩
    rw [length_upRows] at hy
    refine ⟨_, by rw [Nat.zero_add, h.own.cellAt y (by omega), List.getElem?_eq_getElem (by omega)], ?_⟩
    rw [upRows_get hy]
    have := h.at_ y hy
    rw [List.getElem?_eq_getElem (by omega)] at this
    exact SeenR.of_own this (hl y hy)

set_option maxRecDepth 100000 in
set_option maxHeartbeats 2000000 in
theorem rof_bad (x y : Int) (v : Value) (l : List Nat) (w : World) (hx : -9223372036854775808 ≤ x ∧ x ≤ 9223372036854775807) (hy : -9223372036854775808 ≤ y ∧ y ≤ 9223372036854775807) (hv : Seen w v l) (hlt : ∀ j : Nat, l[j]?.getD 0 < 18446744073709551616) (hb : validB x y l = false) :
    Calls Try.prog 8 #[.agg #[.int .i64 x, .int .i64 y, v]] w fun e w' => e = .returned (.tuple #[.slice none 0 0, .int .i64 80]) ∧ Fr (fun _ => False) w w' := by
  have HCK : Hid (∀ w', Fr (fun _ => False) w w' → Calls Try.prog 18 #[.agg #[.int .i64 x, .int .i64 y, v]] w' fun e w'' => e = .returned (.bool false) ∧ Fr (fun _ => False) w' w'') := fun w' hf => by
    have := may_any x y v l w' hx hy (hv.kept hf) hlt
    rwa [hb] at this
  obtain ⟨ao, cap, rfl, -, -⟩ := hv
  go_enter Try.func8, Try.ntmps8
  go_wp2_with fail
  refine (HCK.out _ ((Fr.refl _ _).alloc _)).mono ?_
  rintro e w1 ⟨rfl, hf1⟩
  have HF : Hid (Fr (fun _ => False) w w1) := ((Fr.refl _ _).alloc _).trans hf1 (fun _ _ h => h)
  clear hf1
  go_wp2_with fail
  go_ret2
  exact ⟨rfl, HF.out⟩

theorem own_ne2 {w : World} {base base' e e' s s' n n' : Nat} {v v' : Value} {xs ys : List Value} (h : w.ownsRow base e s v n xs) (h' : w.ownsRow base' e' s' v' n' ys) (he : e ≠ e') : v.ownBlock = none ∨ v.ownBlock ≠ v'.ownBlock := by
  rcases h'.2 with ⟨rfl, _⟩ | ⟨g2, c2, cur2, rfl, _, hg2, _⟩
  · rcases h.2 with ⟨rfl, _⟩ | ⟨g1, c1, cur, rfl, _⟩
    · exact Or.inl rfl
    · exact Or.inr (by simp [Value.ownBlock])
  · exact Or.inr (own_ne h h' he)
theorem AppRR.push {w w' : World} {base k : Nat} {v v' lv : Value} {L : Nat → List (Nat × Nat)} {vs : List Value} (h : AppRR w base v k L vs) (hl : w.ownsRow base 35 2 lv (L k).length (runCells (L k))) (ho : w'.ownsRow base 33 1 v' (k + 1) (vs ++ [lv])) (hg : w.grownBy w' v.ownBlock) : AppRR w' base v' (k + 1) L (vs ++ [lv]) := by
  have hlen : vs.length = k := by have := h.own.1; omega
  refine ⟨ho, fun y hy => ?_⟩
  by_cases e : y = k
  · subst e
    rw [List.getElem?_append_right (by omega), hlen, Nat.sub_self]
    exact hl.kept hg (own_ne2 hl h.own (by decide))
  · rw [List.getElem?_append_left (by omega)]
    exact (h.at_ y (by omega)).kept hg (own_ne2 (h.at_ y (by omega)) h.own (by decide))

set_option maxRecDepth 100000 in
set_option maxHeartbeats 8000000 in
theorem rof_ok (W H : Nat) (v : Value) (P : Nat → Nat → Bool) (w : World) (hb : Bm w v W H P) :
    Calls Try.prog 8 #[.agg #[.int .i64 W, .int .i64 H, v]] w fun e w' => ∃ rv vs, e = .returned (.tuple #[rv, .int .i64 0]) ∧ AppRR w' w.heap.size rv H (fun y => rl (fun x => P x y) W) vs ∧ Fr (fun _ => False) w w' := by
  obtain ⟨i0, hi, hz0, hz1, hz2⟩ := info_parts Try.infoRun
  obtain ⟨i1, hi1, hz10, hz11, hz12⟩ := info_parts Try.infoRow
  obtain ⟨f1, f2, f3⟩ := size_facts hb.h1 hb.h2 hb.h3
  have h1 := hb.h1
  have h2 := hb.h2
  have HMY : Hid (∀ w', Fr (fun _ => False) w w' → Calls Try.prog 18 #[.agg #[.int .i64 W, .int .i64 H, v]] w' fun e w'' => e = .returned (.bool true) ∧ Fr (fun _ => False) w' w'') := fun w' hf => by
    have := may_any W H v _ w' (by omega) (by omega) (hb.seen.kept hf) (render_lt' W H P)
    rwa [render_valid W H P hb.h1 hb.h2 hb.h3] at this
  have HZG : Hid (∀ (i j : Int) (w' : World), Fr (fun _ => False) w w' → Calls Try.prog 20 #[.agg #[.int .i64 W, .int .i64 H, v], .int .i64 i, .int .i64 j] w' fun e w'' => e = .returned (.int .i64 ((getPix W H P i j).toNat : Nat)) ∧ Fr (fun _ => False) w' w'') := fun i j w' f => zget_any W H _ P i j w' (hb.seen.kept f) hb.h1 hb.h2 hb.h3
  obtain ⟨ao, cap, rfl, -, -⟩ := hb.seen
  generalize (render W H P).length = n at *
  have HBX : Hid (∀ w', Fr (fun _ => False) (w.alloc (.cells #[.int .i64 W, .int .i64 H, .slice ao n cap] 25)) w' → w'.cell? ⟨w.heap.size, 0, none⟩ = some (.int .i64 W) ∧ w'.cell? ⟨w.heap.size, 1, none⟩ = some (.int .i64 H) ∧ w'.cell? ⟨w.heap.size, 2, none⟩ = some (.slice ao n cap)) := fun w' hf => by
    obtain ⟨c0, c1, c2, _⟩ := cell_of_three ((hf.block w.heap.size (by simp) (fun hh => hh)).trans (heap_alloc_new w _))
    exact ⟨c0, c1, c2⟩
  have HA : Hid (Fr (fun _ => False) w (w.alloc (.cells #[.int .i64 W, .int .i64 H, .slice ao n cap] 25))) := (Fr.refl _ _).alloc _
  clear hb
  go_enter Try.func8, Try.ntmps8
  go_wp2_with fail
  generalize w.alloc (.cells #[.int .i64 W, .int .i64 H, .slice ao n cap] 25) = w0 at *
  refine (HMY.out _ HA.out).mono ?_
  rintro e w1 ⟨rfl, hf1⟩
  have HF1 : Hid (Fr (fun _ => False) w0 w1) := hf1
  clear hf1 HMY
  go_wp2_with fail
  go_loopg [4, 5, 6, 7] H (fun q rv yv _ _ wr => ∃ (Y : Nat) (vs : List Value), Y + q = H ∧ yv = .int .i64 Y ∧ AppRR wr w0.heap.size rv Y (fun y => rl (fun x => P x y) W) vs ∧ Fr (fun _ => False) w0 wr)
  case atStart => exact ⟨0, [], by omega, rfl, ⟨World.ownsRow_nil _ _ _ _, fun y hy => absurd hy (Nat.not_lt_zero _)⟩, HF1.out⟩
  case round =>
    obtain ⟨Y, vs, hYq, rfl, happ, hfr⟩ := hrel
    have HAp : Hid (AppRR wr w0.heap.size u4 Y (fun y => rl (fun x => P x y) W) vs) := happ
    have HFr : Hid (Fr (fun _ => False) w0 wr) := hfr
    obtain ⟨c0, c1, c2⟩ := HBX.out _ hfr
    clear happ hfr HF1
    by_cases hYH : Y < H
    · have hdY : decide (Y < H) = true := decide_eq_true hYH
      have HFY : Hid (∀ w', Fr (fun _ => False) wr w' → Fr (fun _ => False) w0 w') := fun w' f => HFr.out.trans f (fun _ _ h => h)
      have HGY : Hid (∀ X : Int, getPix W H P X (Y : Int) = (decide (0 ≤ X ∧ X < W) && P X.toNat Y)) := fun X => by
        unfold getPix
        rw [Int.toNat_natCast]
        congr 1
        rw [decide_eq_decide]
        omega
      go_wp2_with fail
      clear c0 c1 c2
      obtain ⟨wY, hwY⟩ : ∃ wY, wY = wr := ⟨_, rfl⟩
      go_loopg [6, 7] W (fun q lv xv wr => ∃ X : Nat, X + q = W ∧ xv = .int .i64 X ∧ wr.ownsRow wY.heap.size 35 2 lv (rl (fun x => P x Y) X).length (runCells (rl (fun x => P x Y) X)) ∧ Fr (fun _ => False) wY wr)
      case atStart => exact ⟨0, by omega, rfl, World.ownsRow_nil _ _ _ _, by rw [hwY]; exact Fr.refl _ _⟩
      case round =>
        rw [← hwY] at HFY HAp
        clear hwY HFr
        obtain ⟨X, hXq, rfl, hown, hfr⟩ := hrel
        have HO : Hid (wr.ownsRow wY.heap.size 35 2 u6 (rl (fun x => P x Y) X).length (runCells (rl (fun x => P x Y) X))) := hown
        have HFX : Hid (Fr (fun _ => False) wY wr) := hfr
        obtain ⟨c0, c1, c2⟩ := HBX.out _ (HFY.out _ hfr)
        clear hown hfr
        by_cases hXW : X < W
        · have hdX : decide (X < W) = true := decide_eq_true hXW
          have HG1 : Hid (getPix W H P (X : Int) (Y : Int) = P X Y) := by show _ = _; rw [HGY.out, decide_eq_true (by omega), Int.toNat_natCast, Bool.true_and]
          have HG2 : Hid (getPix W H P ((X : Int) - 1) (Y : Int) = (decide (0 < X) && P (X - 1) Y)) := by
            show _ = _
            rw [HGY.out, show ((X : Int) - 1).toNat = X - 1 by omega]
            congr 1
            rw [decide_eq_decide]; omega
          go_wp2_with fail
          refine (HZG.out _ _ _ (HA.out.trans (HFY.out _ HFX.out) (fun _ _ h => h))).mono ?_
          rintro e w2 ⟨rfl, hf2⟩
          have HF2 : Hid (Fr (fun _ => False) wY w2) := HFX.out.trans hf2 (fun _ _ h => h)
          have HO2 : Hid (w2.ownsRow wY.heap.size 35 2 u6 (rl (fun x => P x Y) X).length (runCells (rl (fun x => P x Y) X))) := row_kept HO.out hf2 (fun _ _ h => h)
          clear hf2 c0 c1 c2 HO HFX
          rw [HG1.out]
          obtain ⟨c0, c1, c2⟩ := HBX.out _ (HFY.out _ HF2.out)
          cases hp : P X Y with
          | false =>
            have HE : Hid (rl (fun x => P x Y) (X + 1) = rl (fun x => P x Y) X) := rl_succ_white _ hp
            clear hp
            go_wp2_with fail
            go_roundg (W - (X + 1))
            case measure => omega
            case rel => exact ⟨X + 1, by omega, congrArg (Value.int .i64) (by omega), by rw [HE.out]; exact HO2.out, HF2.out⟩
          | true =>
            go_wp2_with fail
            refine (HZG.out _ _ _ (HA.out.trans (HFY.out _ HF2.out) (fun _ _ h => h))).mono ?_
            rintro e w3 ⟨rfl, hf3⟩
            have HF3 : Hid (Fr (fun _ => False) wY w3) := HF2.out.trans hf3 (fun _ _ h => h)
            have HO3 : Hid (w3.ownsRow wY.heap.size 35 2 u6 (rl (fun x => P x Y) X).length (runCells (rl (fun x => P x Y) X))) := row_kept HO2.out hf3 (fun _ _ h => h)
            clear hf3 c0 c1 c2 HO2 HF2
            rw [HG2.out]
            have hrl := rl_len (fun x => P x Y) X
            cases hq : (decide (0 < X) && P (X - 1) Y) with
            | false =>
              have HE : Hid (rl (fun x => P x Y) (X + 1) = rl (fun x => P x Y) X ++ [(X, X + 1)]) := rl_succ_new _ hp hq
              clear hp hq
              have hsz : wY.heap.size ≤ w3.heap.size := HF3.out.size
              have HNE : Hid (rl (fun x => P x Y) (X + 1) = rl (fun x => P x Y) X ++ [(X, X + 1)]) := HE.out
              generalize hR : rl (fun x => P x Y) X = R at *
              clear hR HE
              go_wp2_with (first | (at_builtin; refine wpList_append_own _ rfl _ _ 33 rfl wY.heap.size 35 i0 (.agg #[.int .i64 0, .int .i64 0]) 2 16 Try.underlying33 hi hz0 hz1 hz2 rfl (by decide) _ _ _ rfl (HO3.out.alloc _) ⟨w3.heap.size, 0, none⟩ 1 1 _ rfl rfl (cell_two_new _ _ _ _) ?_ ?_ ?_ ?_ ?_))
              · first | exact ⟨rfl, rfl⟩ | (intro u hu; simp at hu; rcases hu with rfl | rfl <;> rfl)
              · unfold maxLen; omega
              · omega
              · first | omega | (simp; omega)
              · intro v' w4 hown4 hgrow4 _
                have HF4 : Hid (Fr (fun _ => False) wY w4) := (HF3.out.alloc _).grown hgrow4 (fun k hk hlt => by have := (HO3.out.lt k hk).1; omega)
                have HO4 : Hid (w4.ownsRow wY.heap.size 35 2 v' (rl (fun x => P x Y) (X + 1)).length (runCells (rl (fun x => P x Y) (X + 1)))) := by rw [HNE.out, runCells_append, List.length_append]; exact hown4
                clear hown4 hgrow4
                go_wp2_with fail
                go_roundg (W - (X + 1))
                case measure => omega
                case rel => exact ⟨X + 1, by omega, congrArg (Value.int .i64) (by omega), HO4.out, HF4.out⟩
            | true =>
              obtain ⟨l0, a, he1, he2⟩ := rl_succ_on (fun x => P x Y) hp hq
              have HNE : Hid (rl (fun x => P x Y) (X + 1) = l0 ++ [(a, X + 1)]) := he2
              have HO3' : Hid (w3.ownsRow wY.heap.size 35 2 u6 (l0.length + 1) (runCells (l0 ++ [(a, X)]))) := by
                have := HO3.out
                rw [he1, List.length_append] at this
                exact this
              have hln : l0.length ≤ X := by rw [he1, List.length_append] at hrl; simp at hrl; omega
              clear hp hq HO3 he1 he2 hrl
              rcases HO3'.out.2 with ⟨e1, e2⟩ | ⟨g, cg, cur, e1, hgb, _⟩
              · omega
              · obtain rfl := e1
                have hst := HO3'.out.stored (l0.length * 2 + 1) (.int .i64 ((X + 1 : Nat) : Int))
                rw [runCells_set] at hst
                have HST : Hid ((w3.setCell ⟨g, l0.length * 2 + 1, none⟩ (.int .i64 ((X + 1 : Nat) : Int))).ownsRow wY.heap.size 35 2 (.slice (some ⟨g, 0, none⟩) (l0.length + 1) cg) (l0 ++ [(a, X + 1)]).length (runCells (l0 ++ [(a, X + 1)]))) := by rw [List.length_append]; exact hst.1
                have HF4 : Hid (Fr (fun _ => False) wY (w3.setCell ⟨g, l0.length * 2 + 1, none⟩ (.int .i64 ((X + 1 : Nat) : Int)))) := HF3.out.setCell (p := ⟨g, l0.length * 2 + 1, none⟩) (fun h => absurd h (Nat.not_lt.2 hgb)) _
                have hfz := HO3'.out.frozenAt (l0.length * 2 + 1)
                obtain ⟨u, hcx⟩ : ∃ u, w3.cell? ⟨g, l0.length * 2 + 1, none⟩ = some u := ⟨_, (HO3'.out.cellAt _ (by omega)).trans (List.getElem?_eq_getElem (by rw [length_runCells, List.length_append]; simp; omega))⟩
                clear hst
                generalize l0.length = m at *
                have hx1 : ((X + 1 : Nat) : Int) = (X : Int) + 1 := by omega
                rw [hx1] at HST HF4
                clear hx1
                go_wp2_with fail
                go_roundg (W - (X + 1))
                case measure => omega
                case rel => exact ⟨X + 1, by omega, congrArg (Value.int .i64) (by omega), by rw [HNE.out]; exact HST.out, HF4.out⟩
        · have hdX : decide (X < W) = false := decide_eq_false hXW
          have hXe : X = W := by omega
          have h0 := HO.out
          rw [hXe] at h0
          clear hXe HO
          obtain ⟨nl, hnl⟩ : ∃ nl, nl = (rl (fun x => P x Y) W).length := ⟨_, rfl⟩
          rw [← hnl] at h0
          obtain ⟨aoL, cL, rfl⟩ := own_slice h0
          have hsz : w0.heap.size ≤ wr.heap.size := by have := HFX.out.size; have := (HFY.out _ (Fr.refl _ _)).size; have := HA.out.size; omega
          have HOW : Hid (∀ w', Fr (fun _ => False) wr w' → w'.ownsRow w0.heap.size 35 2 (.slice aoL nl cL) (rl (fun x => P x Y) W).length (runCells (rl (fun x => P x Y) W))) := fun w' f => by
            rw [← hnl]
            exact row_kept (ownsRow_base h0 (fun k hk => by have := (h0.lt k hk).1; have := (HFY.out _ (Fr.refl _ _)).size; have := HA.out.size; omega)) f (fun _ _ h => h)
          have HAw : Hid (∀ w', Fr (fun _ => False) wr w' → AppRR w' w0.heap.size u4 Y (fun y => rl (fun x => P x y) W) vs) := fun w' f => (HAp.out.kept HFX.out (fun _ h => h.elim)).kept f (fun _ h => h.elim)
          clear h0 hnl
          go_wp2_with (first | (at_builtin; refine wpList_append_own _ rfl _ _ 26 rfl w0.heap.size 33 i1 (.slice none 0 0) 1 24 Try.underlying26 hi1 hz10 hz11 hz12 rfl (by decide) _ _ _ rfl (HAw.out _ ((Fr.refl _ _).alloc _)).own ⟨wr.heap.size, 0, none⟩ 1 1 _ rfl rfl (cell_one_new _ _ _) ?_ ?_ ?_ ?_ ?_))
          · first | rfl | (intro u hu; simp at hu; subst hu; rfl)
          · unfold maxLen; omega
          · omega
          · first | omega | (simp; omega)
          · intro v' w4 hown4 hgrow4 _
            have HFa : Hid (Fr (fun _ => False) w0 w4) := ((HFY.out _ HFX.out).alloc _).grown hgrow4 (fun k hk hlt => by
              have h5 := ((HAw.out _ (Fr.refl _ _)).own.lt k hk).1
              omega)
            have HA4 : Hid (AppRR w4 w0.heap.size v' (Y + 1) (fun y => rl (fun x => P x y) W) (vs ++ [.slice aoL nl cL])) := (HAw.out _ ((Fr.refl _ _).alloc _)).push (HOW.out _ ((Fr.refl _ _).alloc _)) hown4 hgrow4
            clear hown4 hgrow4
            go_wp2_with fail
            go_roundg (H - (Y + 1))
            case measure => omega
            case rel => exact ⟨Y + 1, _, by omega, congrArg (Value.int .i64) (by omega), HA4.out, HFa.out⟩
    · have hdY : decide (Y < H) = false := decide_eq_false hYH
      have hYe : Y = H := by omega
      have HAe : Hid (AppRR wr w0.heap.size u4 H (fun y => rl (fun x => P x y) W) vs) := by have := HAp.out; rw [hYe] at this; exact this
      clear hYe
      go_wp2_with fail
      go_ret2
      exact ⟨u4, vs, rfl, HAe.out.low HA.out.size, HA.out.trans HFr.out (fun _ _ h => h)⟩

end Go.Proofs.Ythliacfkmpijmaa
