/- 'pages': the document's pages as bitmaps. -/
import Derived.Test.YtpblenebmjmijaaFc
import Derived.Test.YtpblenebmjmijaaOver
namespace Go.Proofs.Ytpblenebmjmijaa
set_option maxRecDepth 100000
open Go.RowKit

theorem Try.infoBm : (Try.prog.info? 54).map (fun i => (i.zero, i.size, i.bytes)) = some (some (.agg #[.int .i64 0, .int .i64 0, .slice none 0 0]), 3, 40) := by kernel_rfl

def pgAt (pgs : List PgI) (j : Nat) : PgI := pgs[j]?.getD ⟨0, 0, 0, 0⟩
theorem pgAt_of {pgs : List PgI} {j : Nat} {p : PgI} (h : pgs[j]? = some p) : pgAt pgs j = p := by simp [pgAt, h]
/-- Bitmaps as cells of a row. -/
def bmC (pgs : List PgI) (U : Nat → Value) : Nat → List Value
  | 0 => []
  | n + 1 => bmC pgs U n ++ [.int .i64 (pgAt pgs n).W, .int .i64 (pgAt pgs n).H, U n]
theorem length_bmC (pgs : List PgI) (U : Nat → Value) : ∀ n, (bmC pgs U n).length = n * 3
  | 0 => rfl
  | n + 1 => by
    show (bmC pgs U n ++ _).length = _
    rw [List.length_append, length_bmC pgs U n, List.length_cons, List.length_cons, List.length_cons, List.length_nil]; omega
theorem bmC_at (pgs : List PgI) (U : Nat → Value) : ∀ n j, j < n → (bmC pgs U n)[j * 3]? = some (.int .i64 (pgAt pgs j).W) ∧ (bmC pgs U n)[j * 3 + 1]? = some (.int .i64 (pgAt pgs j).H) ∧ (bmC pgs U n)[j * 3 + 2]? = some (U j)
  | 0, j, h => absurd h (Nat.not_lt_zero _)
  | n + 1, j, h => by
    have hl := length_bmC pgs U n
    show (bmC pgs U n ++ _)[j * 3]? = _ ∧ (bmC pgs U n ++ _)[j * 3 + 1]? = _ ∧ (bmC pgs U n ++ _)[j * 3 + 2]? = _
    by_cases e : j = n
    · subst e
      rw [List.getElem?_append_right (by omega), List.getElem?_append_right (by omega), List.getElem?_append_right (by omega), hl, Nat.sub_self, Nat.add_sub_cancel_left, Nat.add_sub_cancel_left]
      exact ⟨rfl, rfl, rfl⟩
    · rw [List.getElem?_append_left (by omega), List.getElem?_append_left (by omega), List.getElem?_append_left (by omega)]
      exact bmC_at pgs U n j (by omega)
def updU (U : Nat → Value) (i : Nat) (u : Value) : Nat → Value := fun j => if j = i then u else U j
theorem bmC_congr (pgs : List PgI) {U V : Nat → Value} : ∀ n, (∀ j, j < n → U j = V j) → bmC pgs U n = bmC pgs V n
  | 0, _ => rfl
  | n + 1, h => by
    show bmC pgs U n ++ _ = bmC pgs V n ++ _
    rw [bmC_congr pgs n (fun j hj => h j (by omega)), h n (by omega)]
theorem bmC_next (pgs : List PgI) (U : Nat → Value) (i : Nat) (u : Value) (p : PgI) (h : pgs[i]? = some p) : bmC pgs (updU U i u) (i + 1) = bmC pgs U i ++ [.int .i64 p.W, .int .i64 p.H, u] := by
  show bmC pgs (updU U i u) i ++ [.int .i64 (pgAt pgs i).W, .int .i64 (pgAt pgs i).H, updU U i u i] = _
  rw [show updU U i u i = u from if_pos rfl, bmC_congr pgs (U := updU U i u) (V := U) i (fun j hj => if_neg (by omega)), pgAt_of h]
theorem cell3_new (w : World) (a b c : Value) (t : TypeId) : ∀ (j : Nat) (u : Value), [a, b, c][j]? = some u → (w.alloc (.cells #[a, b, c] t)).cell? (Addr.add ⟨w.heap.size, 0, none⟩ j) = some u := fun j u hu => by
  have h := heap_alloc_new w (.cells #[a, b, c] t)
  match j, hu with
  | 0, hu => cases hu; show (w.alloc (.cells #[a, b, c] t)).cell? ⟨w.heap.size, 0, none⟩ = _; unfold World.cell?; simp only [h]; rfl
  | 1, hu => cases hu; show (w.alloc (.cells #[a, b, c] t)).cell? ⟨w.heap.size, 1, none⟩ = _; unfold World.cell?; simp only [h]; rfl
  | 2, hu => cases hu; show (w.alloc (.cells #[a, b, c] t)).cell? ⟨w.heap.size, 2, none⟩ = _; unfold World.cell?; simp only [h]; rfl
  | j + 3, hu => simp at hu

/-- Bitmaps that show a document's pages; their blocks are none of A. -/
structure BL (w : World) (A : Nat → Prop) (v : Value) (pgs : List PgI) (Pf : Pix3) : Prop where
  sl : ∃ ao cap, v = .slice ao pgs.length cap ∧ (0 < pgs.length → ∃ B, ao = some ⟨B, 0, none⟩ ∧ ¬ A B ∧ B < w.heap.size ∧ ∀ (j : Nat) (p : PgI), pgs[j]? = some p → ∃ g cp,
    w.cell? ⟨B, j * 3, none⟩ = some (.int .i64 p.W) ∧ w.cell? ⟨B, j * 3 + 1, none⟩ = some (.int .i64 p.H) ∧ w.cell? ⟨B, j * 3 + 2, none⟩ = some (.slice (some ⟨g, 0, none⟩) (p.H * stride p.W) cp) ∧ ¬ A g ∧
    w.ownsRow 0 32 1 (.slice (some ⟨g, 0, none⟩) (p.H * stride p.W) cp) (p.H * stride p.W) (wordCells (render p.W p.H (Pf j))))
theorem BL.kept {S A A' : Nat → Prop} {w w' : World} {v : Value} {pgs : List PgI} {Pf : Pix3} (h : BL w A v pgs Pf) (fr : Fr S w w') (hs : ∀ k, S k → A k) (ha : ∀ k, k < w.heap.size → A' k → A k) : BL w' A' v pgs Pf := by
  obtain ⟨ao, cap, hv, h1⟩ := h.sl
  refine ⟨ao, cap, hv, fun hn => ?_⟩
  obtain ⟨B, hB, hA, hl, hc⟩ := h1 hn
  refine ⟨B, hB, fun e => hA (ha _ hl e), Nat.lt_of_lt_of_le hl fr.size, fun j p hj => ?_⟩
  obtain ⟨g, cp, c0, c1, c2, hg, ho⟩ := hc j p hj
  have hgl := (ho.lt g rfl).2
  exact ⟨g, cp, by rw [fr.cell hl (fun e => hA (hs _ e))]; exact c0, by rw [fr.cell hl (fun e => hA (hs _ e))]; exact c1, by rw [fr.cell hl (fun e => hA (hs _ e))]; exact c2, fun e => hg (ha _ hgl e), row_kept ho fr (fun k hk e => hg (by simp [Value.ownBlock] at hk; subst hk; exact hs _ e))⟩

set_option maxHeartbeats 4000000 in
theorem pagesOf_any {w1 w : World} {d : Nat} {pgs : List PgI} {Pf : Pix3} {pv sv : Value} {ss : List Value} (h : DU w1 w d pgs Pf pv sv ss) :
    Calls Try.prog 5 #[.pointer (some ⟨d, 0, none⟩)] w fun e w' => ∃ v, e = .returned v ∧ Fr (fun _ => False) w w' ∧ ∀ A : Nat → Prop, (∀ k, A k → k < w.heap.size) → BL w' A v pgs Pf := by
  obtain ⟨i0, hi, hz0, hz1, hz2⟩ := info_parts Try.infoBm
  have HD : Hid (DU w1 w d pgs Pf pv sv ss) := h
  have hle := h.le
  clear h
  go_enter Try.func5, Try.ntmps5
  go_wp2_with fail
  go_loopw [3, 4] (fun v k wr => ∃ (i : Nat) (U : Nat → Value) (vv : Value), i ≤ pgs.length ∧ k = .int .i64 (i : Int) ∧ v = vv ∧ wr.ownsRow 0 54 3 vv i (bmC pgs U i) ∧ (∀ j p, j < i → pgs[j]? = some p → ∃ g cp, U j = .slice (some ⟨g, 0, none⟩) (p.H * stride p.W) cp ∧ w.heap.size ≤ g ∧ wr.ownsRow 0 32 1 (U j) (p.H * stride p.W) (wordCells (render p.W p.H (Pf j)))) ∧ (∀ k, vv.ownBlock = some k → w.heap.size ≤ k) ∧ Fr (fun _ => False) w wr) (fun _ k _ => pgs.length - (intOf k).toNat)
  case atStart => exact ⟨0, fun _ => .slice none 0 0, _, by omega, rfl, rfl, World.ownsRow_nil _ _ _ _, fun j p hj => absurd hj (Nat.not_lt_zero _), fun k hk => by simp [Value.ownBlock] at hk, Fr.refl _ _⟩
  case round =>
    obtain ⟨i, U, vv, hjq, rfl, hvv, how, hwd, hbw, hfr⟩ := hrel
    have hvv2 := hvv.symm
    clear hvv
    subst hvv2
    have HO : Hid (wr.ownsRow 0 54 3 vv i (bmC pgs U i)) := how
    have HW : Hid (∀ j p, j < i → pgs[j]? = some p → ∃ g cp, U j = .slice (some ⟨g, 0, none⟩) (p.H * stride p.W) cp ∧ w.heap.size ≤ g ∧ wr.ownsRow 0 32 1 (U j) (p.H * stride p.W) (wordCells (render p.W p.H (Pf j)))) := hwd
    have HBW : Hid (∀ k, vv.ownBlock = some k → w.heap.size ≤ k) := hbw
    have HFr : Hid (Fr (fun _ => False) w wr) := hfr
    have HDr : Hid (DU w1 wr d pgs Pf pv sv ss) := HD.out.still hfr
    clear how hwd hfr hbw
    go_wp2_with fail
    refine (pages_any d d pv sv _ ss _ HDr.out.doc).mono ?_
    rintro e w2 ⟨rfl, rfl⟩
    rw [ptrs_len]
    by_cases h1 : i < pgs.length
    · obtain ⟨p, hp⟩ : ∃ p, pgs[i]? = some p := ⟨_, List.getElem?_eq_getElem h1⟩
      have HPI : Hid (pgs[i]? = some p) := hp
      clear hp
      go_wp2_with fail
      refine (docPage_in d d p.b p.g _ p.W p.H i _ pv sv _ ss _ HDr.out.doc (HDr.out.mp i p HPI.out) (ptrs_get HPI.out) HDr.out.pl).mono ?_
      rintro e w3 ⟨g2, cap2, rfl, hu, hf2, hg2⟩
      obtain ⟨N, HN⟩ : ∃ N, Hid (N = p.H * stride p.W) := ⟨_, rfl⟩
      rw [← HN.out] at hu ⊢
      have HU : Hid (w3.ownsRow 0 32 1 (.slice (some ⟨g2, 0, none⟩) N cap2) N (wordCells (render p.W p.H (Pf i)))) := hu
      have HF2 : Hid (Fr (fun _ => False) w2 w3) := hf2
      have HG2 : Hid (w.heap.size ≤ g2) := Nat.le_trans HFr.out.size hg2
      clear hu hf2 hg2
      have HO2 : Hid (w3.ownsRow 0 54 3 vv i (bmC pgs U i)) := row_kept HO.out HF2.out (fun _ _ h => h)
      go_wp2_with (first | (at_builtin; refine wpList_append_row _ rfl _ _ 35 rfl 54 i0 (.agg #[.int .i64 0, .int .i64 0, .slice none 0 0]) 3 40 Try.underlying35 hi hz0 hz1 hz2 rfl (by decide) vv i (bmC pgs U i) rfl ((HO2.out.alloc _).alloc _) ⟨w3.heap.size + 1, 0, none⟩ 1 1 [.int .i64 p.W, .int .i64 p.H, .slice (some ⟨g2, 0, none⟩) N cap2] rfl rfl ?c1 ?c2 ?c3 ?c4 (by decide) ?_))
      case c1 =>
        have h := cell3_new (w3.alloc (.cells #[.int .i64 p.W, .int .i64 p.H, .slice (some ⟨g2, 0, none⟩) N cap2] 54)) (.int .i64 p.W) (.int .i64 p.H) (.slice (some ⟨g2, 0, none⟩) N cap2) 54
        rw [World.size_alloc] at h
        exact h
      case c2 =>
        intro u hu
        simp only [List.mem_cons, List.not_mem_nil, or_false] at hu
        rcases hu with rfl | rfl | rfl <;> rfl
      case c3 => unfold maxLen; omega
      case c4 => omega
      intro g' cap' w' ho hg hor hc hm
      have HO' : Hid (w'.ownsRow 0 54 3 (.slice (some ⟨g', 0, none⟩) (i + 1) cap') (i + 1) (bmC pgs (updU U i (.slice (some ⟨g2, 0, none⟩) N cap2)) (i + 1))) := by rw [bmC_next pgs U i _ p HPI.out]; exact ho
      have hfg := (((Fr.refl (fun k => vv.ownBlock = some k) w3).alloc _).alloc _).grown hg (fun k e _ => e)
      have HW' : Hid (∀ j q, j < i + 1 → pgs[j]? = some q → ∃ g cp, updU U i (.slice (some ⟨g2, 0, none⟩) N cap2) j = .slice (some ⟨g, 0, none⟩) (q.H * stride q.W) cp ∧ w.heap.size ≤ g ∧ w'.ownsRow 0 32 1 (updU U i (.slice (some ⟨g2, 0, none⟩) N cap2) j) (q.H * stride q.W) (wordCells (render q.W q.H (Pf j)))) := fun j q hj hq => by
        have key : ∀ v n xs, w3.ownsRow 0 32 1 v n xs → w'.ownsRow 0 32 1 v n xs := fun v n xs hv => row_kept hv hfg (fun k hk e => by
          rcases rows_ne HO2.out hv (by decide) with h | h
          · rw [h] at e; cases e
          · exact h (e.trans hk.symm))
        by_cases e : j = i
        · subst e
          have hpq : q = p := by have := HPI.out; rw [hq] at this; exact Option.some.inj this
          subst hpq
          rw [show updU U j (.slice (some ⟨g2, 0, none⟩) N cap2) j = _ from if_pos rfl, ← HN.out]
          exact ⟨g2, cap2, rfl, HG2.out, key _ _ _ HU.out⟩
        · rw [show updU U i (.slice (some ⟨g2, 0, none⟩) N cap2) j = U j from if_neg e]
          obtain ⟨g, cp, h1, h2, h3⟩ := HW.out j q (by omega) hq
          exact ⟨g, cp, h1, h2, key _ _ _ (row_kept h3 HF2.out (fun _ _ h => h))⟩
      have HB' : Hid (∀ k, (Value.slice (some ⟨g', 0, none⟩) (i + 1) cap').ownBlock = some k → w.heap.size ≤ k) := fun k hk => by
        simp only [Value.ownBlock, Option.some.injEq] at hk
        subst hk
        rcases hor with h | h
        · exact HBW.out _ h
        · have := HFr.out.size
          have := HF2.out.size
          omega
      have HF' : Hid (Fr (fun _ => False) w w') := (((HFr.out.trans HF2.out (fun _ _ h => h)).alloc _).alloc _).grown hg (fun k e hk => by have := HBW.out k e; omega)
      clear ho hg hor hc hm hfg
      go_wp2_with fail
      go_roundw
      case rel => exact ⟨i + 1, updU U i (.slice (some ⟨g2, 0, none⟩) N cap2), _, by omega, congrArg (Value.int .i64) (by omega), rfl, HO'.out, HW'.out, HB'.out, HF'.out⟩
      case measure => simp [intOf]; omega
    · have hie : i = pgs.length := by omega
      clear h1 hjq
      subst hie
      go_wp2_with fail
      go_ret
      refine ⟨vv, rfl, HFr.out, fun A hA => ?_⟩
      rcases HO.out.2 with ⟨e, hn⟩ | ⟨g, cap, cur, rfl, hb, hg, hc, hmx, hcs, ht⟩
      · exact ⟨none, 0, by rw [e, hn], fun h => by omega⟩
      · refine ⟨_, cap, rfl, fun _ => ⟨g, rfl, fun e => ?_, lt_of_block hg, fun j p hj => ?_⟩⟩
        · have := HBW.out g rfl; have := hA g e; omega
        · have hjl := (List.getElem?_eq_some_iff.mp hj).1
          obtain ⟨a, b, c⟩ := bmC_at pgs U pgs.length j hjl
          obtain ⟨g1, cp, h1, h2, h3⟩ := HW.out j p hjl hj
          rw [pgAt_of hj] at a b
          rw [h1] at c h3
          exact ⟨g1, cp, (HO.out.cellAt (j * 3) (by omega)).trans a, (HO.out.cellAt (j * 3 + 1) (by omega)).trans b, (HO.out.cellAt (j * 3 + 2) (by omega)).trans c, fun e => by have := hA g1 e; omega, h3⟩
end Go.Proofs.Ytpblenebmjmijaa
