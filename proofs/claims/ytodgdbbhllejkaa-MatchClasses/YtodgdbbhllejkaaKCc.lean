/- 'CopyBitmaps': other words, the same bitmaps. -/
import Derived.Test.YtodgdbbhllejkaaKCz
namespace Go.Proofs.Ytodgdbbhllejkaa
open Go.RowKit

/-- Bitmaps as cells of a row. -/
def bpC (A : Nat → Bp) : Nat → List Value
  | 0 => []
  | n + 1 => bpC A n ++ [.int .i64 (A n).x, .int .i64 (A n).y, (A n).v]
theorem length_bpC (A : Nat → Bp) : ∀ n, (bpC A n).length = n * 3
  | 0 => rfl
  | n + 1 => by
    show (bpC A n ++ _).length = _
    rw [List.length_append, length_bpC A n, List.length_cons, List.length_cons, List.length_cons, List.length_nil]; omega
theorem bpC_at (A : Nat → Bp) : ∀ n j, j < n → (bpC A n)[j * 3]? = some (.int .i64 (A j).x) ∧ (bpC A n)[j * 3 + 1]? = some (.int .i64 (A j).y) ∧ (bpC A n)[j * 3 + 2]? = some (A j).v
  | 0, j, h => absurd h (Nat.not_lt_zero _)
  | n + 1, j, h => by
    have hl := length_bpC A n
    show (bpC A n ++ _)[j * 3]? = _ ∧ (bpC A n ++ _)[j * 3 + 1]? = _ ∧ (bpC A n ++ _)[j * 3 + 2]? = _
    by_cases e : j = n
    · subst e
      rw [List.getElem?_append_right (by omega), List.getElem?_append_right (by omega), List.getElem?_append_right (by omega), hl, Nat.sub_self, Nat.add_sub_cancel_left, Nat.add_sub_cancel_left]
      exact ⟨rfl, rfl, rfl⟩
    · rw [List.getElem?_append_left (by omega), List.getElem?_append_left (by omega), List.getElem?_append_left (by omega)]
      exact bpC_at A n j (by omega)
theorem bpC_congr {A B : Nat → Bp} : ∀ n, (∀ j, j < n → A j = B j) → bpC A n = bpC B n
  | 0, _ => rfl
  | n + 1, h => by
    show bpC A n ++ _ = bpC B n ++ _
    rw [bpC_congr n (fun j hj => h j (by omega)), h n (by omega)]
theorem bps_row {w : World} {g n cap : Nat} {A : Nat → Bp} (h : w.ownsRow 0 48 3 (.slice (some ⟨g, 0, none⟩) n cap) n (bpC A n)) (hn : n ≤ 5000) (hk : ∀ j, j < n → BpOK w (A j)) : BpsAt w (some ⟨g, 0, none⟩) n A := by
  refine ⟨by omega, fun _ => ⟨g, 0, rfl, fun j hj => ?_⟩, hk⟩
  obtain ⟨a, b, c⟩ := bpC_at A n j hj
  rw [Nat.zero_add]
  exact ⟨(h.cellAt (j * 3) (by omega)).trans a, (h.cellAt (j * 3 + 1) (by omega)).trans b, (h.cellAt (j * 3 + 2) (by omega)).trans c⟩
theorem cell3_new (w : World) (a b c : Value) (t : TypeId) : ∀ (j : Nat) (u : Value), [a, b, c][j]? = some u → (w.alloc (.cells #[a, b, c] t)).cell? (Addr.add ⟨w.heap.size, 0, none⟩ j) = some u := fun j u hu => by
  have h := heap_alloc_new w (.cells #[a, b, c] t)
  match j, hu with
  | 0, hu => cases hu; show (w.alloc (.cells #[a, b, c] t)).cell? ⟨w.heap.size, 0, none⟩ = _; unfold World.cell?; simp only [h]; rfl
  | 1, hu => cases hu; show (w.alloc (.cells #[a, b, c] t)).cell? ⟨w.heap.size, 1, none⟩ = _; unfold World.cell?; simp only [h]; rfl
  | 2, hu => cases hu; show (w.alloc (.cells #[a, b, c] t)).cell? ⟨w.heap.size, 2, none⟩ = _; unfold World.cell?; simp only [h]; rfl
  | j + 3, hu => simp at hu

/-- The same bitmap in other words. -/
def cpB (A : Nat → Bp) (U : Nat → Value) (j : Nat) : Bp := ⟨(A j).x, (A j).y, U j, (A j).l⟩
theorem bpC_cp (A : Nat → Bp) (U : Nat → Value) (i : Nat) (u : Value) : bpC (cpB A (updU U i u)) (i + 1) = bpC (cpB A U) i ++ [.int .i64 (A i).x, .int .i64 (A i).y, u] := by
  show bpC (cpB A (updU U i u)) i ++ [.int .i64 (A i).x, .int .i64 (A i).y, updU U i u i] = _
  rw [show updU U i u i = u from if_pos rfl, bpC_congr (A := cpB A (updU U i u)) (B := cpB A U) i (fun j hj => by unfold cpB; rw [show updU U i u j = U j from if_neg (by omega)])]

set_option maxRecDepth 100000 in
set_option maxHeartbeats 4000000 in
theorem copyBitmaps_any (ao : Option Addr) (n cap : Nat) (A : Nat → Bp) (w : World) (hB : BpsAt w ao n A) (hn : n ≤ 4096) (hl : ∀ j, j < n → (A j).l.length ≤ 1048576) :
    Calls Try.prog 12 #[.slice ao n cap] w fun e w' => ∃ bo cb U, e = .returned (.slice bo n cb) ∧ BpsAt w' bo n (cpB A U) ∧ Fr (fun _ => False) w w' := by
  obtain ⟨i0, hi, hz0, hz1, hz2⟩ := info_parts Try.infoBm
  have HBP : Hid (∀ w', Fr (fun _ => False) w w' → BpsAt w' ao n A) := fun w' f => hB.kept f
  have HL : Hid (∀ j, j < n → (A j).l.length ≤ 1048576) := hl
  have HCP : Hid (∀ (x y : Int) (v : Value) (l : List Nat) (w : World), Seen w v l → l.length ≤ 1048576 → Calls Try.prog 27 #[.agg #[.int .i64 x, .int .i64 y, v]] w fun e w' => ∃ u, e = .returned (.agg #[.int .i64 x, .int .i64 y, u]) ∧ w'.ownsRow w.heap.size 23 1 u l.length (wordCells l) ∧ Fr (fun _ => False) w w') := fun x y v l w hs hl => copy_bp x y v l w hs hl
  clear hB hl
  go_enter Try.func12, Try.ntmps12
  go_wp2_with fail
  go_loopg [3, 4] n (fun q v k wr => ∃ (i : Nat) (U : Nat → Value) (vv : Value), i + q = n ∧ k = .int .i64 (i : Int) ∧ v = vv ∧ wr.ownsRow 0 48 3 vv i (bpC (cpB A U) i) ∧ (∀ j, j < i → wr.ownsRow 0 23 1 (U j) (A j).l.length (wordCells (A j).l)) ∧ (∀ k, vv.ownBlock = some k → w.heap.size ≤ k) ∧ Fr (fun _ => False) w wr)
  case atStart => exact ⟨0, fun _ => .slice none 0 0, _, by omega, rfl, rfl, World.ownsRow_nil _ _ _ _, fun j hj => absurd hj (Nat.not_lt_zero _), fun k hk => by simp [Value.ownBlock] at hk, Fr.refl _ _⟩
  case round =>
    obtain ⟨i, U, vv, hjq, rfl, hvv, how, hwd, hbw, hfr⟩ := hrel
    have hvv2 := hvv.symm
    clear hvv
    subst hvv2
    have HO : Hid (wr.ownsRow 0 48 3 vv i (bpC (cpB A U) i)) := how
    have HW : Hid (∀ j, j < i → wr.ownsRow 0 23 1 (U j) (A j).l.length (wordCells (A j).l)) := hwd
    have HBW : Hid (∀ k, vv.ownBlock = some k → w.heap.size ≤ k) := hbw
    have HFr : Hid (Fr (fun _ => False) w wr) := hfr
    clear how hwd hfr hbw
    by_cases h1 : i < n
    · have d1 : decide (i < n) = true := decide_eq_true h1
      obtain ⟨b, off, hao, hcc⟩ := (HBP.out wr HFr.out).cells (by omega)
      obtain ⟨k0, k1, k2⟩ := hcc i h1
      subst hao
      obtain ⟨av, cv, hv, -⟩ := ((HBP.out wr HFr.out).ok i h1).hv
      have HC : Hid _ := HCP.out (A i).x (A i).y (A i).v (A i).l wr ((HBP.out wr HFr.out).ok i h1).hv (HL.out i h1)
      rw [hv] at k2 HC
      clear hv hcc
      go_wp2_with fail
      refine Calls.mono HC.out ?_
      rintro e w2 ⟨u, rfl, hu, hf2⟩
      obtain ⟨au, cu, hue⟩ := own_slice hu
      subst hue
      have HU : Hid (w2.ownsRow wr.heap.size 23 1 (.slice au (A i).l.length cu) (A i).l.length (wordCells (A i).l)) := hu
      have HF2 : Hid (Fr (fun _ => False) wr w2) := hf2
      have HO2 : Hid (w2.ownsRow 0 48 3 vv i (bpC (cpB A U) i)) := row_kept HO.out hf2 (fun _ _ h => h)
      clear hu hf2 k0 k1 k2
      go_wp2_with (first | (at_builtin; refine wpList_append_row _ rfl _ _ 22 rfl 48 i0 (.agg #[.int .i64 0, .int .i64 0, .slice none 0 0]) 3 40 Try.underlying22 hi hz0 hz1 hz2 rfl (by decide) vv i (bpC (cpB A U) i) rfl (HO2.out.alloc _) ⟨w2.heap.size, 0, none⟩ 1 1 [.int .i64 (A i).x, .int .i64 (A i).y, .slice au (A i).l.length cu] rfl rfl ?c1 ?c2 ?c3 ?c4 (by decide) ?_))
      case c1 => exact cell3_new w2 (.int .i64 (A i).x) (.int .i64 (A i).y) (.slice au (A i).l.length cu) 48
      case c2 =>
        intro u hu
        simp only [List.mem_cons, List.not_mem_nil, or_false] at hu
        rcases hu with rfl | rfl | rfl <;> rfl
      case c3 => unfold maxLen; omega
      case c4 => omega
      intro g' cap' w' ho hg hor hc hm
      have HO' : Hid (w'.ownsRow 0 48 3 (.slice (some ⟨g', 0, none⟩) (i + 1) cap') (i + 1) (bpC (cpB A (updU U i (.slice au (A i).l.length cu))) (i + 1))) := by rw [bpC_cp]; exact ho
      have hfg := ((Fr.refl (fun k => vv.ownBlock = some k) w2).alloc _).grown hg (fun k e _ => e)
      have HW' : Hid (∀ j, j < i + 1 → w'.ownsRow 0 23 1 (updU U i (.slice au (A i).l.length cu) j) (A j).l.length (wordCells (A j).l)) := fun j hj => by
        have key : ∀ v, w2.ownsRow 0 23 1 v (A j).l.length (wordCells (A j).l) → w'.ownsRow 0 23 1 v (A j).l.length (wordCells (A j).l) := fun v hv => row_kept hv hfg (fun k hk e => by
          rcases own_ne2 HO2.out hv (by decide) with h | h
          · rw [h] at e; cases e
          · exact h (e.trans hk.symm))
        by_cases e : j = i
        · subst e
          rw [show updU U j (.slice au (A j).l.length cu) j = _ from if_pos rfl]
          exact key _ (ownsRow_base HU.out (fun _ _ => Nat.zero_le _))
        · rw [show updU U i (.slice au (A i).l.length cu) j = U j from if_neg e]
          exact key _ (row_kept (HW.out j (by omega)) HF2.out (fun _ _ h => h))
      have HB' : Hid (∀ k, (Value.slice (some ⟨g', 0, none⟩) (i + 1) cap').ownBlock = some k → w.heap.size ≤ k) := fun k hk => by
        simp only [Value.ownBlock, Option.some.injEq] at hk
        subst hk
        rcases hor with h | h
        · exact HBW.out _ h
        · have := HFr.out.size
          have := HF2.out.size
          first | (simp only [World.size_alloc] at h; omega) | omega
      have HF' : Hid (Fr (fun _ => False) w w') := ((HFr.out.trans HF2.out (fun _ _ h => h)).alloc _).grown hg (fun k e hk => by have := HBW.out k e; omega)
      clear ho hg hor hc hm hfg
      go_wp2_with fail
      go_roundg (n - (i + 1))
      case measure => omega
      case rel => exact ⟨i + 1, updU U i (.slice au (A i).l.length cu), _, by omega, by go_num, rfl, HO'.out, HW'.out, HB'.out, HF'.out⟩
    · have d1 : decide (i < n) = false := decide_eq_false h1
      have hie : i = n := by omega
      clear h1 hjq
      subst hie
      have HBB : Hid (∃ bo cb, vv = .slice bo i cb ∧ BpsAt wr bo i (cpB A U)) := by
        have hok : ∀ j, j < i → BpOK wr (cpB A U j) := fun j hj => by
          have q := (HBP.out wr HFr.out).ok j hj
          have hw := HW.out j hj
          refine ⟨q.hx, q.hy, Seen.of_row hw (by show (A j).l.length ≤ _; have := HL.out j hj; omega), ?_, ?_, q.hlt⟩
          · rcases hw.2 with ⟨e, _⟩ | ⟨g, c, cur, e, _, _, hc, hm, _⟩
            · intro ao n c e2
              have e3 : U j = .slice ao n c := e2
              rw [e] at e3; cases e3; exact ⟨Nat.le_refl _, by omega⟩
            · intro ao n c' e2
              have e3 : U j = .slice ao n c' := e2
              rw [e] at e3; cases e3; exact ⟨hc, hm⟩
          · rcases hw.2 with ⟨e, _⟩ | ⟨g, c, cur, e, _, _, hc, hm, _⟩
            · intro n c e2
              have e3 : U j = .slice none n c := e2
              rw [e] at e3; cases e3; exact ⟨rfl, rfl⟩
            · intro n c' e2
              have e3 : U j = .slice none n c' := e2
              rw [e] at e3; cases e3
        rcases Nat.eq_zero_or_pos i with h0 | h0
        · subst h0
          obtain ⟨bo, cb, e⟩ := own_slice HO.out
          exact ⟨bo, cb, e, by omega, fun h => absurd h (Nat.lt_irrefl _), fun j hj => absurd hj (Nat.not_lt_zero _)⟩
        · obtain ⟨g, cb, e, -⟩ := row_form HO.out h0
          subst e
          exact ⟨_, cb, rfl, bps_row HO.out (by omega) hok⟩
      obtain ⟨bo, cb, e, hbb⟩ := HBB.out
      subst e
      have HBE : Hid (BpsAt wr bo i (cpB A U)) := hbb
      clear hbb
      go_wp2_with fail
      go_ret
      exact ⟨bo, cb, U, rfl, HBE.out, HFr.out⟩
end Go.Proofs.Ytodgdbbhllejkaa
