/- 'remember', whatever is remembered: with 64 steps the oldest one is forgotten. -/
import Derived.Test.YtpblenebmjmijaaEb
import Derived.Laws.CopyOwn
import Derived.Laws.CopyRow
namespace Go.Proofs.Ytpblenebmjmijaa
set_option maxRecDepth 100000
open Go.RowKit

theorem step_copy_exact {P : Program} {ops : Array Oper} {o : Oper} {a : Act} {w : World} {K : Act → World → Prop} {Q : Exit → Act → World → Prop} {E : Prop} (hgd : o.guard = none) (d s : Operand) (dT sT : TypeId)
    (ho : o.op = .call { callee := .builtin .copy, args := #[d, s], argTypes := #[dT, sT] }) (elem : TypeId) (hu : P.underlying dT = some (.slice elem)) (hsz : (P.info? elem).map (·.size) = some 1)
    (g off dLen dCap : Nat) (ad : Addr) (sLen sCap : Nat) (hd : a.eval d = .slice (some ⟨g, off, none⟩) dLen dCap) (hs : a.eval s = .slice (some ad) sLen sCap)
    (cur : Array Value) (t : TypeId) (hg : w.heap[g]? = some (.cells cur t (0, 0))) (cs : List Value) (hn : cs.length = Nat.min sLen dLen)
    (hsrc : ∀ j v, cs[j]? = some v → w.cell? (ad.add j) = some v) (hfit : off + cs.length ≤ cur.size) (h1 : ∀ v ∈ cs, v.oneCell' = true)
    (h : K (a.put o.dst (goInt cs.length)) (w.setRow g (cur.toList.take off ++ cs ++ cur.toList.drop (off + cs.length)).toArray)) :
    if Region.wanted o (yielded ops a.tmps) = true then Oper.wp P o a w K Q else E := by
  have hw : Region.wanted o (yielded ops a.tmps) = true := by simp [Region.wanted, hgd]
  rw [if_pos hw]
  have hrun := run_copy_row (P := P) w dT sT o.type elem g off dLen dCap ad sLen sCap cur t cs hu hsz hg hn hsrc hfit h1
  unfold Oper.wp
  have h' : K (a.put o.dst (goInt cs.length)) (w.setRow g (cur.toList.take off ++ (cs ++ cur.toList.drop (off + cs.length))).toArray) := by simpa using h
  simp [execOp, ho, resolve, invoke, builtin, hd, hs, hrun, Result.andThen]
  exact h'

theorem Try.size55 : (Try.prog.info? 63).map (fun i => i.size) = some 1 := by kernel_rfl

theorem Fr.setRow {S : Nat → Prop} {a b : World} (h : Fr S a b) {g : Nat} (hg : g < a.heap.size → S g) (cs : Array Value) : Fr S a (b.setRow g cs) :=
  h.trans (T := fun k => k = g) ⟨rfl, rfl, rfl, by simp [World.setRow], fun k _ hn => setRow_other _ _ _ _ hn⟩ (fun i hi e => by subst e; exact hg hi)

/-- A row whose cells are moved down by one: the last one stands twice. -/
theorem row_shifted {w : World} {base g cap n : Nat} {e : TypeId} {x y : Value} {xs : List Value} (h : w.ownsRow base e 1 (.slice (some ⟨g, 0, none⟩) (n + 1) cap) (n + 1) (x :: xs)) (hy : (x :: xs)[n]? = some y) :
    ∃ cur : Array Value, w.heap[g]? = some (.cells cur e (0, 0)) ∧ 0 + xs.length ≤ cur.size ∧ (w.setRow g (cur.toList.take 0 ++ xs ++ cur.toList.drop (0 + xs.length)).toArray).ownsRow base e 1 (.slice (some ⟨g, 0, none⟩) (n + 1) cap) (n + 1) (xs ++ [y]) := by
  have hl : xs.length = n := by have := h.1; simp at this; omega
  rcases h.2 with ⟨e1, _⟩ | ⟨g', c', cur, e1, h1, h2, h3, h4, h5, h6⟩
  · cases e1
  · simp only [Value.slice.injEq, Option.some.injEq, Addr.mk.injEq] at e1
    obtain ⟨⟨rfl, _⟩, _, rfl⟩ := e1
    refine ⟨cur, h2, by omega, by simp; omega, Or.inr ⟨g, cap, _, rfl, h1, setRow_heap w g _ _ e _ h2, h3, h4, ?_, ?_⟩⟩
    · simp; omega
    · rw [Nat.mul_one] at h6 ⊢
      have hcl : cur.toList.length = cap := by simp; omega
      have hd : (cur.toList.drop xs.length).take 1 = [y] := by
        rw [hl]
        have h7 : cur.toList[n]? = some y := by rw [← hy, ← h6, List.getElem?_take, if_pos (by omega)]
        have h8 : n < cur.toList.length := by omega
        rw [List.drop_eq_getElem_cons h8]
        rw [List.getElem?_eq_getElem h8] at h7
        simp at h7
        simp [h7]
      simp only [List.take_zero, List.nil_append, Nat.zero_add]
      rw [List.take_append, List.take_of_length_le (by omega), show n + 1 - xs.length = 1 by omega, hd]

/-- A document whose steps are moved down by one. -/
theorem DocAt.shifted {w : World} {base d g cap n : Nat} {pv x y : Value} {ps ss : List Value} (h : DocAt w base d pv (.slice (some ⟨g, 0, none⟩) (n + 1) cap) ps (x :: ss)) (hn : ss.length = n) (hy : (x :: ss)[n]? = some y) :
    ∃ cur : Array Value, w.heap[g]? = some (.cells cur 63 (0, 0)) ∧ 0 + ss.length ≤ cur.size ∧ DocAt (w.setRow g (cur.toList.take 0 ++ ss ++ cur.toList.drop (0 + ss.length)).toArray) base d pv (.slice (some ⟨g, 0, none⟩) (n + 1) cap) ps (ss ++ [y]) := by
  have hne : g ≠ d := fun e => row_ne h.st h.blk (by decide) (by rw [e]; rfl)
  have hst := h.st
  rw [show (x :: ss).length = n + 1 by simp [hn]] at hst
  obtain ⟨cur, h1, h2, h3⟩ := row_shifted hst hy
  refine ⟨cur, h1, h2, ?_, h.bas, row_kept h.pg (S := fun k => k = g) ((Fr.refl (fun k => k = g) w).setRow (fun _ => rfl) _) (fun k hk e => ?_), ?_⟩
  · rw [setRow_other _ _ _ _ (fun e => hne e.symm)]; exact h.blk
  · subst e
    rcases rows_ne h.pg h.st (by decide) with h1 | h1
    · rw [h1] at hk; cases hk
    · exact h1 hk
  · rw [show (ss ++ [y]).length = n + 1 by simp [hn]]; exact h3

set_option maxHeartbeats 4000000 in
theorem remember_full (base d : Nat) (pv sv x : Value) (ps ss : List Value) (fn : Fn) (caps : Array Value) (w : World) (h : DocAt w base d pv sv ps (x :: ss)) (hl : ss.length = 63) (hone : ∀ u ∈ ss, u.oneCell' = true) :
    Calls Try.prog 18 #[.pointer (some ⟨d, 0, none⟩), .agg #[.func fn #[] caps]] w fun e w' => e = .returned (.tuple #[]) ∧ ∃ sv', DocAt w' base d pv sv' ps (ss ++ [.func fn #[] caps]) ∧ Fr (fun k => k = d ∨ sv.ownBlock = some k) w w' ∧ (∀ k, sv'.ownBlock = some k → sv.ownBlock = some k ∨ w.heap.size ≤ k) := by
  obtain ⟨i0, hi, hz0, hz1, hz2⟩ := info_parts Try.infoStep
  obtain ⟨g, cap, rfl, hbg, hgl⟩ := h.st.form (by simp)
  have hn64 : (x :: ss).length = 64 := by simp [hl]
  rw [hn64] at h ⊢
  obtain ⟨y, hy⟩ : ∃ y, (x :: ss)[63]? = some y := ⟨_, List.getElem?_eq_getElem (by omega)⟩
  obtain ⟨wX, HX⟩ : ∃ wX, Hid (wX = w.alloc (.cells #[.func fn #[] caps] 63)) := ⟨_, rfl⟩
  have HA : Hid (Fr (fun _ => False) w wX) := by rw [HX.out]; exact (Fr.refl _ _).alloc _
  have HDX : Hid (DocAt wX base d pv (.slice (some ⟨g, 0, none⟩) 64 cap) ps (x :: ss)) := h.kept HA.out (fun h => h) (fun _ _ h => h) (fun _ _ h => h)
  have hbox : wX.heap[w.heap.size]? = some (.cells #[.func fn #[] caps] 63 (0, 0)) := by rw [HX.out]; exact heap_alloc_new w _
  obtain ⟨cur, hcur, hfit, hsh⟩ := HDX.out.shifted hl hy
  have HCU : Hid (wX.heap[g]? = some (.cells cur 63 (0, 0))) := hcur
  obtain ⟨row, HROW⟩ : ∃ row : Array Value, Hid (row = (cur.toList.take 0 ++ ss ++ cur.toList.drop (0 + ss.length)).toArray) := ⟨_, rfl⟩
  rw [← HROW.out] at hsh
  have HSH : Hid (DocAt (wX.setRow g row) base d pv (.slice (some ⟨g, 0, none⟩) 64 cap) ps (ss ++ [y])) := hsh
  have hgd : g ≠ d := fun e => row_ne h.st h.blk (by decide) (by rw [e]; rfl)
  have hcap : 64 ≤ cap ∧ cap ≤ maxLen := by
    have := h.st
    rw [hn64] at this
    rcases this.2 with ⟨e1, _⟩ | ⟨g', c', cur, e1, h1, h2, h3, h4, h5, h6⟩
    · cases e1
    · simp only [Value.slice.injEq] at e1
      obtain ⟨_, _, rfl⟩ := e1
      exact ⟨h3, h4⟩
  have HSRC : Hid (∀ (j : Nat) (v : Value), ss[j]? = some v → wX.drew.cell? ((⟨g, 1, none⟩ : Addr).add j) = some v) := fun j v hv => by
    have hlj : j < ss.length := (List.getElem?_eq_some_iff.mp hv).1
    have hst := HDX.out.st
    rw [hn64] at hst
    have := hst.cellAt (j + 1) (by omega)
    rw [List.getElem?_cons_succ, hv] at this
    have e : (⟨g, 1, none⟩ : Addr).add j = ⟨g, j + 1, none⟩ := by unfold Addr.add; split <;> simp_all <;> omega
    rw [e]
    exact this
  have hwx := HX.out
  have hdl : d < w.heap.size := h.lt
  obtain ⟨e0, e1, ef⟩ := cell_of_two HDX.out.blk
  have e1' := e1
  rw [hwx] at e1'
  have HFIT : Hid (0 + ss.length ≤ cur.size) := hfit
  have HONE : Hid (∀ u ∈ ss, u.oneCell' = true) := hone
  have HL : Hid (ss.length = 63) := hl
  have hcap1 : 64 ≤ cap := hcap.1
  have hne64 : ¬ cap = 1 := by omega
  clear h hsh hfit hcur hcap hwx hone hy hl hbox
  go_enter Try.func18, Try.ntmps18
  go_wp2_with fail
  rw [← HX.out]
  clear e1'
  go_region_law ((refine step_copy_exact (by rfl) _ _ 49 49 (by rfl) 63 Try.underlying49 Try.size55 g 0 64 cap ⟨g, 1, none⟩ 63 (cap - 1) (by rfl) (by rfl) cur 63 (by exact HCU.out) ss (by rw [HL.out]; rfl) (by exact HSRC.out) (by exact HFIT.out) (by exact HONE.out) ?_; rw [← HROW.out]))
  all_goals
    obtain ⟨w2, HW2⟩ : ∃ w2, Hid (w2 = wX.drew.setRow g row) := ⟨_, rfl⟩
    rw [← HW2.out]
    have HFX2 : Hid (Fr (fun k => k = g) wX w2) := by rw [HW2.out]; exact (Fr.refl (fun k => k = g) wX).drew.setRow (fun _ => rfl) _
    have HD2 : Hid (DocAt w2 base d pv (.slice (some ⟨g, 0, none⟩) 64 cap) ps (ss ++ [y])) := by
      rw [HW2.out]
      exact HSH.out.kept (S := fun _ => False) ⟨rfl, rfl, rfl, Nat.le_refl _, fun _ _ _ => rfl⟩ (fun h => h) (fun _ _ h => h) (fun _ _ h => h)
    clear e0 e1 ef
    obtain ⟨e0, e1, ef⟩ := cell_of_two HD2.out.blk
    have hst2 := HD2.out.st
    rw [show (ss ++ [y]).length = 63 + 1 by simp [HL.out]] at hst2
    have HST2 : Hid (w2.ownsRow base 63 1 (.slice (some ⟨g, 0, none⟩) (63 + 1) cap) (63 + 1) (ss ++ [y])) := hst2
    clear hst2
    go_wp2_with fail
    refine (without_steps base 63 g cap ss y _ HST2.out).mono ?_
    rintro e w3 ⟨rfl, rfl⟩
    have hdl2 : d < w2.heap.size := HD2.out.lt
    have hgd2 : g ≠ d := hgd
    go_wp2_with fail
    obtain ⟨w4, HW4⟩ : ∃ w4, Hid (w4 = (w2.setCell ⟨g, 63, none⟩ .nilFunc).setCell ⟨d, 1, none⟩ (.slice (some ⟨g, 0, none⟩) 63 cap)) := ⟨_, rfl⟩
    rw [← HW4.out]
    have HD4 : Hid (DocAt w4 base d pv (.slice (some ⟨g, 0, none⟩) 63 cap) ps ss) := by rw [HW4.out]; exact DocAt.unstepped (n := 63) (u := .nilFunc) HD2.out HL.out.symm
    have HF4 : Hid (Fr (fun k => k = d ∨ k = g) wX w4) := by
      rw [HW4.out]
      exact Fr.setCell (Fr.setCell (HFX2.out.mono (T := fun k => k = d ∨ k = g) (fun _ _ h => Or.inr h)) (p := ⟨g, 63, none⟩) (fun _ => Or.inr rfl) _) (p := ⟨d, 1, none⟩) (fun _ => Or.inl rfl) _
    have hsz4 : wX.heap.size ≤ w4.heap.size := HF4.out.size
    have hbox4 : w4.heap[w.heap.size]? = some (.cells #[.func fn #[] caps] 63 (0, 0)) := by
      rw [HF4.out.block _ (by rw [HX.out]; simp) (by omega), HX.out]; exact heap_alloc_new w _
    have hbx := cell_of_one hbox4
    clear e0 e1 ef
    obtain ⟨e0, e1, ef⟩ := cell_of_two HD4.out.blk
    have HW : Hid (w4.ownsRow 0 63 1 (.slice (some ⟨g, 0, none⟩) 63 cap) 63 ss) := by
      have := ownsRow_base (b' := 0) HD4.out.st (fun _ _ => Nat.zero_le _)
      rw [HL.out] at this
      exact this
    have hdl4 : d < w4.heap.size := HD4.out.lt
    have hbxl : w.heap.size < w4.heap.size := lt_of_block hbox4
    have hne4 : (Value.slice (some ⟨g, 0, none⟩) 63 cap).ownBlock ≠ some d := fun e => hgd (by simpa [Value.ownBlock] using e)
    have HSX : Hid (wX.heap.size = w.heap.size + 1) := by show _ = _; rw [HX.out]; simp
    have KC : Hid (∀ (w5 : World), (w4.alloc (.cells #[.func fn #[] caps] 63)).drew.grownBy w5 (Value.slice (some ⟨g, 0, none⟩) 63 cap).ownBlock → w5.cell? ⟨d, 1, none⟩ = some (.slice (some ⟨g, 0, none⟩) 63 cap) ∧ w5.frozen? ⟨d, 1, none⟩ = false) := by
      intro w5 hgrow
      have f : Fr (fun k => (Value.slice (some ⟨g, 0, none⟩) 63 cap).ownBlock = some k) w4 w5 := (((Fr.refl _ _).alloc _).drew).grown hgrow (fun k hk _ => hk)
      have hb := (f.block _ hdl4 hne4).trans HD4.out.blk
      obtain ⟨_, a1, a2⟩ := cell_of_two hb
      exact ⟨a1, a2 1⟩
    clear hbox4 hne4 hsz4 hcap1 hne64 hn64
    go_wp2_with fail
    go_region_law ((refine step_append_lies _ (by rfl) _ _ _ (by rfl) 0 63 i0 (.agg #[.nilFunc]) 1 8 Try.underlying49 hi hz0 hz1 hz2 rfl (by decide) (.slice (some ⟨g, 0, none⟩) 63 cap) 63 _ (by rfl) (HW.out.alloc _) ⟨w4.heap.size, 0, none⟩ 1 1 [.func fn #[] caps] (by rfl) rfl (cell_one_new w4 _ 63) (by intro u hu; simp at hu; subst hu; rfl) (by decide) (by unfold maxLen; omega) (by omega) (Nat.zero_le _) (w4.heap.size + 1) (by simp) ?_; intro g' cap' w5 hown1 hgrow hat hlt; obtain ⟨k1, kf1⟩ := KC.out w5 hgrow; have HG : Hid ((w4.alloc (.cells #[.func fn #[] caps] 63)).drew.grownBy w5 (Value.slice (some ⟨g, 0, none⟩) 63 cap).ownBlock) := hgrow; have HN1 : Hid (w5.ownsRow 0 63 1 (.slice (some ⟨g', 0, none⟩) (63 + 1) cap') (63 + 1) (ss ++ [.func fn #[] caps])) := hown1; have HAT : Hid ((Value.slice (some ⟨g, 0, none⟩) 63 cap).ownBlock = some g' ∨ g' = w4.heap.size + 1) := hat; clear hgrow hown1 hat))
    all_goals
      go_wp2_with fail
      go_end0
      have hs := HD4.out.stepped (n := 63) HL.out.symm HN1.out ((((Fr.refl _ w4).alloc _).drew).grown HG.out (fun k hk _ => hk)) (HAT.out.imp id (fun e => by omega))
      have hsz := HF4.out.size
      have hsx := HSX.out
      refine ⟨rfl, _, hs.1, ((HA.out.mono (fun _ _ h => h.elim)).trans HF4.out (fun k _ h => h.elim Or.inl (fun h => Or.inr (by rw [h]; rfl)))).trans hs.2 (fun k _ h => h.elim Or.inl (fun h => Or.inr h)), fun k hk => ?_⟩
      simp only [Value.ownBlock, Option.some.injEq] at hk
      subst hk
      rcases HAT.out with e | e
      · exact Or.inl e
      · exact Or.inr (by omega)
end Go.Proofs.Ytpblenebmjmijaa
