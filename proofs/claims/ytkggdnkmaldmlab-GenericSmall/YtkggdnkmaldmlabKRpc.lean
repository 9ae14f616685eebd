/- Package generic: repeats, by a coder. -/
import Derived.Test.YtkggdnkmaldmlabKLi
namespace Go.Proofs.Ytkggdnkmaldmlab
open Go.RowKit

set_option maxRecDepth 100000 in
set_option maxHeartbeats 2000000 in
theorem repeats_c (v : Value) (D : Who 74 v) (base t W H y g cap rc : Nat) (skip : Bool) (up : Value) (P : Pxs) (w : World) (s : D.S)
    (hD : D.At w s) (hl : 0 < D.left (D.abs s)) (hr : RowAt w g cap W H P) (hg : ¬ D.own s g) (hup : ∀ w', Fr (fun k => D.own s k) w w' → Seen w' up (upL W P y)) (ht : t < 4) (hy : y < H) (h1 : 1 ≤ W) (h2 : 1 ≤ H) (h3 : W * H ≤ 1048576) (hb : base ≤ 131072) :
    Calls Try.prog 43 #[procV base t skip, .iface 70 v, .slice (some ⟨g, y * stride W, none⟩) (stride W) rc, up] w fun e w' => e = .returned (.bool (decide ((D.ask (D.abs s) ((base + sizeT t : Nat) : Int) (sameR W P y).toNat).1 ≠ 0))) ∧ ∃ s', D.At w' s' ∧ D.abs s' = (D.ask (D.abs s) ((base + sizeT t : Nat) : Int) (sameR W P y).toNat).2 ∧
      RowAt w' g cap W H (if (D.ask (D.abs s) ((base + sizeT t : Nat) : Int) (sameR W P y).toNat).1 = 0 then P else copyR W P y) ∧ Fr (fun k => D.own s k ∨ k = g) w w' ∧ (∀ k, D.own s' k → D.own s k ∨ w.heap.size ≤ k) := by
  obtain ⟨f1, f2, f3⟩ := size_facts h1 h2 h3
  have hS : stride W ≤ 1048576 := by unfold stride; omega
  have hHS : y * stride W + stride W ≤ H * stride W := by
    have := Nat.mul_le_mul_right (stride W) (show y + 1 ≤ H by omega)
    rw [Nat.add_mul, Nat.one_mul] at this; exact this
  have hrow : ∀ w', Fr (fun _ => False) w w' → Seen w' (.slice (some ⟨g, y * stride W, none⟩) (stride W) rc) (lineL W P y) := fun w' f => by
    have hr' := hr.kept f (fun h => h)
    refine ⟨_, rc, by rw [length_lineL], by rw [length_lineL]; omega, fun _ => ⟨g, y * stride W, rfl, fun j hj => ?_⟩⟩
    rw [length_lineL] at hj
    rw [World.ownsRow.cellAt hr' _ (by omega), wordCells_get, render_get P hy hj, lineL_get W P y j hj]; rfl
  have HQ : Hid (∀ w', Fr (fun _ => False) w w' → Calls Try.prog 52 #[.slice (some ⟨g, y * stride W, none⟩) (stride W) rc, up] w' fun e w'' => e = .returned (.bool (sameR W P y)) ∧ Fr (fun _ => False) w' w'') := fun w' f => by
    have := eqs_any _ _ (lineL W P y) (upL W P y) w' (hrow w' f) (hup w' (f.mono (fun _ _ h => h.elim)))
    rwa [same_words] at this
  have hZ := sizeT_le t ht
  have hasb : (sameR W P y).toNat < 2 := by have := Bool.toNat_le (sameR W P y); omega
  have HA : Hid (∀ (w' : World) (bi : Int), bi = ((sameR W P y).toNat : Nat) → Fr (fun _ => False) w w' → Calls Try.prog 74 #[v, .int .i64 ((base : Int) + (sizeT t : Nat)), .int .i64 bi] w' fun e w'' => e = .returned (.int .i64 ((D.ask (D.abs s) ((base + sizeT t : Nat) : Int) (sameR W P y).toNat).1 : Nat)) ∧ ∃ s', D.At w'' s' ∧ D.abs s' = (D.ask (D.abs s) ((base + sizeT t : Nat) : Int) (sameR W P y).toNat).2 ∧ Fr (D.own s) w' w'' ∧ (∀ k, D.own s' k → D.own s k ∨ w'.heap.size ≤ k)) := fun w' bi hbi f => by
    have := D.calls w' s ((base + sizeT t : Nat) : Int) (sameR W P y).toNat (D.kept hD f (fun _ _ h => h)) hl (by omega) hasb
    rw [hbi]
    rwa [show ((base + sizeT t : Nat) : Int) = (base : Int) + (sizeT t : Nat) by omega] at this ⊢
  have hlt : (D.ask (D.abs s) ((base + sizeT t : Nat) : Int) (sameR W P y).toNat).1 < 2 := D.ask_lt _ _ _ hasb
  generalize D.ask (D.abs s) ((base + sizeT t : Nat) : Int) (sameR W P y).toNat = r at *
  obtain ⟨z, a⟩ := r
  simp only [] at HA hlt ⊢
  generalize sameR W P y = sm at *
  have HR : Hid (RowAt w g cap W H P) := hr
  have HG : Hid (¬ D.own s g) := hg
  have HUP : Hid (∀ w', Fr (fun k => D.own s k) w w' → Seen w' up (upL W P y)) := hup
  have HY : Hid (y < H ∧ 1 ≤ W ∧ stride W ≤ 1048576) := ⟨hy, h1, hS⟩
  obtain ⟨ao, cu, hupv, _, _⟩ := hup w (Fr.refl _ _)
  rw [length_upL] at hupv
  subst hupv
  unfold procV
  clear hup hrow hr hg hD hl hy h1 h2 h3 f1 f2 f3 hHS ht hS
  generalize sizeT t = Z at *
  go_enter Try.func43, Try.ntmps43
  go_wp2_with fail
  refine (HQ.out _ ((Fr.refl _ _).alloc _)).mono ?_
  rintro e w1 ⟨rfl, hf1⟩
  have hb1 : w1.heap[w.heap.size]? = some (.cells #[.int .i64 base, .int .i64 t, .int .i64 Z, .int .i64 ((2 ^ cntS t 2 - 1 : Nat) : Int), .bool skip] 62 (0, 0)) := (hf1.block _ (by simp) (fun hh => hh)).trans (heap_alloc_new w _)
  obtain ⟨p0, p1, p2, p3, p4, pf⟩ := cell_of_five hb1
  have HF1 : Hid (Fr (fun _ => False) w w1) := ((Fr.refl _ _).alloc _).trans hf1 (fun _ _ h => h)
  clear HQ hf1 hb1 hasb
  cases sm
  all_goals
    (go_wp2_with fail
     refine (HA.out w1 _ rfl HF1.out).mono ?_
     rintro e w2 ⟨rfl, s', hat, habs, hf2, hown⟩
     have HS : Hid (D.At w2 s' ∧ Fr (D.own s) w w2 ∧ (∀ k, D.own s' k → D.own s k ∨ w.heap.size ≤ k)) := ⟨hat, (HF1.out.mono (fun _ _ h => h.elim)).trans hf2 (fun _ _ h => h), fun k hk => by have h1 := HF1.out.size; rcases hown k hk with h | h; exact Or.inl h; exact Or.inr (by omega)⟩
     have HAB : Hid (D.abs s' = a) := habs
     clear hat habs hf2 hown p0 p1 p2 p3 p4 pf
     rcases (show z = 0 ∨ z = 1 by omega) with rfl | rfl
     · go_wp2_with fail
       go_ret
       exact ⟨rfl, s', HS.out.1, HAB.out, HR.out.kept HS.out.2.1 HG.out, HS.out.2.1.mono (fun _ _ h => Or.inl h), HS.out.2.2⟩
     · have hr2 := HR.out.kept HS.out.2.1 HG.out
       obtain ⟨cur, hc, hcap, hcm, hcs, hct⟩ := hr2.cur
       have hsn := HUP.out w2 HS.out.2.1
       have HC : Hid (RowAt (w2.setRow g (cur.toList.take (y * stride W) ++ (wordCells (upL W P y) ++ cur.toList.drop (y * stride W + stride W))).toArray) g cap W H (copyR W P y) ∧ Fr (fun k => k = g) w2 (w2.setRow g (cur.toList.take (y * stride W) ++ (wordCells (upL W P y) ++ cur.toList.drop (y * stride W + stride W))).toArray)) := hr2.copied hc HY.out.1 HY.out.2.1
       have HAG : Hid (∀ k, D.own s' k → k ≠ g) := fun k hk e => by
         subst e
         rcases HS.out.2.2 k hk with h | h
         · exact HG.out h
         · have := HR.out.lt; omega
       obtain ⟨ao', cu', hv, _, hcell⟩ := hsn
       have hSp : 0 < stride W := stride_pos (by have := HY.out.2.1; omega)
       obtain ⟨bu, ou, hao, hcu⟩ := hcell (by intro e; have := congrArg List.length e; rw [length_upL] at this; simp at this; omega)
       rw [length_upL] at hv hcu
       simp only [Value.slice.injEq] at hv
       obtain ⟨hao2, _, hcuc⟩ := hv
       rw [hao] at hao2
       subst hao2
       have HCU : Hid (∀ (j : Nat) (u : Value), (wordCells (upL W P y))[j]? = some u → w2.cell? ((⟨bu, ou, none⟩ : Addr).add j) = some u) := fun j u hu => by
         have hj : j < stride W := by
           rcases Nat.lt_or_ge j (stride W) with h2 | h2
           · exact h2
           · rw [List.getElem?_eq_none (by rw [length_wordCells, length_upL]; exact h2)] at hu; cases hu
         have := hcu j hj
         rw [wordCells_get, upL_get W P y j hj] at hu
         rw [upL_get W P y j hj] at this
         rw [show (⟨bu, ou, none⟩ : Addr).add j = ⟨bu, ou + j, none⟩ from by unfold Addr.add; split <;> simp_all, this]
         exact hu
       have hfit : y * stride W + (wordCells (upL W P y)).length ≤ cur.size := by
         have := Nat.mul_le_mul_right (stride W) (show y + 1 ≤ H by have := HY.out.1; omega)
         rw [Nat.add_mul, Nat.one_mul] at this
         rw [length_wordCells, length_upL]; omega
       have hmn : (wordCells (upL W P y)).length = Nat.min (stride W) (stride W) := by rw [length_wordCells, length_upL]; exact (Nat.min_self _).symm
       have hwl : (wordCells (upL W P y)).length = stride W := by rw [length_wordCells, length_upL]
       have hone := wordCells_one (upL W P y)
       clear hao hcu hcell hr2 hct hcm hcap hcs
       generalize wordCells (upL W P y) = cs at *
       have hrun := run_copy_row (P := Try.prog) w2 22 22 3 67 g (y * stride W) (stride W) rc ⟨bu, ou, none⟩ (stride W) cu cur 67 cs Try.underlying22 (by kernel_rfl) hc hmn HCU.out hfit hone
       rw [List.append_assoc, hwl] at hrun
       have hc2 := HC.out.1
       have hf3 := HC.out.2
       generalize (w2.setRow g (cur.toList.take (y * stride W) ++ (cs ++ cur.toList.drop (y * stride W + stride W))).toArray) = w3 at *
       clear hc
       have HC2 : Hid (RowAt w3 g cap W H (copyR W P y)) := hc2
       have HF3 : Hid (Fr (fun k => k = g) w2 w3) := hf3
       clear hc2 hf3 HC hone hfit hmn hwl HCU
       subst hcuc
       go_wp2_with fail
       go_ret
       exact ⟨rfl, s', D.kept HS.out.1 HF3.out (fun k hk e => HAG.out k hk e), HAB.out, HC2.out, (HS.out.2.1.mono (fun _ _ h => Or.inl h)).trans HF3.out (fun _ _ e => Or.inr e), HS.out.2.2⟩)

end Go.Proofs.Ytkggdnkmaldmlab
