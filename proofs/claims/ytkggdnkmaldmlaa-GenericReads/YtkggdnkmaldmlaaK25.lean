/- Package generic: Put, of what may be. -/
import Derived.Test.YtkggdnkmaldmlaaK21
import Derived.Test.YtkggdnkmaldmlaaK24
import Derived.Test.YtkggdnkmaldmlaaK18
namespace Go.Proofs.Ytkggdnkmaldmlaa
open Go.RowKit

set_option maxRecDepth 100000 in
set_option maxHeartbeats 4000000 in
theorem gput_ok (bc gc cc gb cb : Nat) (o : Co) (base t W H : Nat) (v : Value) (P : Pxs) (skip : Bool) (w : World) (hc : CoAt w bc gc cc gb cb o) (hok : Ook o) (hb : Bm w v W H P) (ht : t < 4) (hbase : base + sizeT t + 1 ≤ o.x.length) (hm : o.made + H * (W + 1) ≤ 16777216) :
    Calls Try.prog 27 #[.pointer (some ⟨bc, 0, none⟩), .int .i64 base, .agg #[.int .i64 W, .int .i64 H, v], .int .i64 t, .bool skip] w fun e w' => e = .returned (.int .i64 0) ∧ ∃ gb' cb', CoAt w' bc gc cc gb' cb' (runL o (rowsD base t W skip P H)) ∧ Ook (runL o (rowsD base t W skip P H)) ∧ CStep bc gc gb gb' w w' := by
  obtain ⟨f1, f2, f3⟩ := size_facts hb.h1 hb.h2 hb.h3
  have hlim := hok.lim
  have HC : Hid (∀ w', Fr (fun _ => False) w w' → CoAt w' bc gc cc gb cb o) := fun w' f => hc.kept f (fun x => x) (fun x => x) (fun x => x)
  have HB : Hid (∀ w', Fr (fun _ => False) w w' → Bm w' v W H P) := fun w' f => hb.kept f
  have hH : 0 < H * stride W := Nat.mul_pos (by have := hb.h2; omega) (stride_pos (by have := hb.h1; omega))
  obtain ⟨a0, o0, cv, hv⟩ : ∃ a0 o0 cv, v = .slice (some ⟨a0, o0, none⟩) (H * stride W) cv := by
    obtain ⟨ao, cap, rfl, _, hcc⟩ := hb.seen
    obtain ⟨b, off, rfl, _⟩ := hcc (by intro e; have := congrArg List.length e; rw [length_render] at this; simp at this; omega)
    exact ⟨b, off, cap, by rw [length_render]⟩
  have HCl : Hid (∀ w', Fr (fun _ => False) w w' → Calls Try.prog 51 #[v] w' fun e w'' => ∃ g cap, e = .returned (.slice (some ⟨g, 0, none⟩) (H * stride W) cap) ∧ RowAt w'' g cap W H P ∧ Fr (fun _ => False) w' w'' ∧ w'.heap.size ≤ g) := fun w' f => by
    have hb' := hb.kept f
    subst hv
    refine (cloneW_some _ _ cv (render W H P) w' (length_render W H P) f3 ?_).mono ?_
    · intro j u hu
      have hj : j < H * stride W := by
        rcases Nat.lt_or_ge j (H * stride W) with h2 | h2
        · exact h2
        · rw [List.getElem?_eq_none (by rw [length_wordCells, length_render]; exact h2)] at hu; cases hu
      obtain ⟨ao, cap, e, _, hcc⟩ := hb'.seen
      obtain ⟨b, off, rfl, hcell⟩ := hcc (by intro e; have := congrArg List.length e; rw [length_render] at this; simp at this; omega)
      simp only [Value.slice.injEq, Option.some.injEq, Addr.mk.injEq, and_true] at e
      obtain ⟨⟨rfl, rfl⟩, _, _⟩ := e
      have := hcell j (by rw [length_render]; exact hj)
      rw [show (⟨a0, o0, none⟩ : Addr).add j = ⟨a0, o0 + j, none⟩ from by unfold Addr.add; split <;> simp_all, this, ← hu, wordCells_get, render_get' P hj]; rfl
    · rintro e w2 ⟨rv, rfl, ho, hf2, hnn⟩
      obtain ⟨g2, cap2, hrv, hg2⟩ := row_out ho hnn
      subst hrv
      exact ⟨g2, cap2, rfl, ownsRow_base ho (fun _ _ => Nat.zero_le _), hf2, hg2⟩
  have HTh : Hid (∀ (w' : World) (g cap : Nat), Fr (fun _ => False) w w' → RowAt w' g cap W H P → w.heap.size ≤ g → Calls Try.prog 52 #[.agg #[.pointer (some ⟨bc, 0, none⟩)], procV base t skip, .agg #[.int .i64 W, .int .i64 H, .slice (some ⟨g, 0, none⟩) (H * stride W) cap]] w' fun e w'' => e = .returned (.int .i64 0) ∧ ∃ gb' cb', CoAt w'' bc gc cc gb' cb' (runL o (rowsD base t W skip P H)) ∧ Ook (runL o (rowsD base t W skip P H)) ∧ CStep bc gc gb gb' w w'') := fun w' g cap f hr hg => by
    have hco := hc.kept f (fun x => x) (fun x => x) (fun x => x)
    have hl := hc.lt
    have hxl := hc.xlt
    have hbl := hc.blt
    refine (through_c (some ⟨bc, 0, none⟩) (whoC bc gc cc) base t W H g cap skip P w' ⟨gb, cb, o⟩ ⟨hco, hok⟩ (by show _ ≤ 16777216 - o.made; omega) hr (by show ¬ (g = bc ∨ g = gc ∨ g = gb); omega) (fun x y _ _ => by show (P x y).toNat < 2; have := Bool.toNat_le (P x y); omega) ht hb.h1 hb.h2 hb.h3 (by omega)).mono ?_
    rintro e w2 ⟨rfl, s', hat, habs, _, hf2, how⟩
    have e1 : (thrW askC base t W skip H (o, P)).1 = runL o (rowsD base t W skip P H) := by rw [thrW_coder]
    have h1 : s'.o = runL o (rowsD base t W skip P H) := by rw [← e1]; exact habs
    refine ⟨rfl, s'.gb, s'.cb, ?_, ?_, ?_⟩
    · rw [← h1]; exact hat.1
    · rw [← h1]; exact hat.2
    · have hsz := f.size
      refine ⟨?_, ?_⟩
      · refine (f.mono (fun _ _ h => h.elim)).trans hf2 (fun i hi e => ?_)
        rcases e with e | e
        · exact e
        · omega
      · rcases how s'.gb (Or.inr (Or.inr rfl)) with a | a
        · have a' : s'.gb = bc ∨ s'.gb = gc ∨ s'.gb = gb := a
          have hn1 := hat.1.neb
          have hn2 := hat.1.nexb
          rcases a' with a | a | a
          · exact absurd a hn1
          · exact absurd a hn2
          · exact Or.inl a
        · exact Or.inr (by omega)
  have HNP : Hid (∀ w', Calls Try.prog 38 #[.int .i64 base, .int .i64 t, .bool skip] w' fun e w'' => e = .returned (.tuple #[procV base t skip, .int .i64 0]) ∧ Fr (fun _ => False) w' w'') := fun w' => newProc_ok base t skip ht w'
  have HFt : Hid (∀ w', Calls Try.prog 49 #[procV base t skip, .int .i64 (o.x.length : Nat)] w' fun e w'' => e = .returned (.bool true) ∧ Fr (fun _ => False) w' w'') := fun w' => by
    have := fits_pos base t skip o.x.length ht (by omega) hlim w'
    rwa [decide_eq_true hbase] at this
  have HCt : Hid (∀ w', Fr (fun _ => False) w w' → Calls Try.prog 50 #[.pointer (some ⟨bc, 0, none⟩)] w' fun e w'' => e = .returned (.int .i64 (o.x.length : Nat)) ∧ w'' = w') := fun w' f => by
    obtain ⟨e0, _⟩ := cell_of_seven (hc.kept f (fun x => x) (fun x => x) (fun x => x)).blk
    exact contexts_at w' bc gc cc _ e0 hlim
  obtain ⟨n0, HN0⟩ : ∃ n0, Hid (n0 = H * stride W) := ⟨_, rfl⟩
  rw [← HN0.out] at hv HCl HTh
  subst hv
  unfold procV at *
  clear hc hb hbase hm hok hH f3
  generalize sizeT t = Z at *
  generalize o.x.length = X at *
  generalize 2 ^ cntS t 2 - 1 = O at *
  go_enter Try.func27, Try.ntmps27
  go_wp2_with fail
  refine (HNP.out _).mono ?_
  rintro e w1 ⟨rfl, hf1⟩
  have HF1 : Hid (Fr (fun _ => False) w (w1.alloc (.cells #[.int .i64 base, .int .i64 t, .int .i64 Z, .int .i64 O, .bool skip] 85))) := (((Fr.refl _ _).alloc _).trans hf1 (fun _ _ h => h)).alloc _
  have hs1 : w.heap.size < w1.heap.size := by have := hf1.size; simp at this; omega
  have HBX : Hid (∀ w', Fr (fun _ => False) (w1.alloc (.cells #[.int .i64 base, .int .i64 t, .int .i64 Z, .int .i64 O, .bool skip] 85)) w' → w'.heap[w.heap.size]? = some (.cells #[.int .i64 W, .int .i64 H, .slice (some ⟨a0, o0, none⟩) n0 cv] 26 (0, 0)) ∧ w'.heap[w1.heap.size]? = some (.cells #[.int .i64 base, .int .i64 t, .int .i64 Z, .int .i64 O, .bool skip] 85 (0, 0))) := fun w' f => by
    refine ⟨?_, ?_⟩
    · rw [f.block _ (by simp; omega) (fun h => h), Below.heap_alloc _ _ _ hs1, hf1.block _ (by simp) (fun h => h)]; exact heap_alloc_new w _
    · rw [f.block _ (by simp) (fun h => h)]; exact heap_alloc_new w1 _
  have hbx := HBX.out _ (Fr.refl _ _)
  obtain ⟨q0, q1, q2, qf⟩ := cell_of_three hbx.1
  clear hf1 hbx
  go_wp2_with fail
  generalize hwA : w1.alloc (.cells #[.int .i64 base, .int .i64 t, .int .i64 Z, .int .i64 O, .bool skip] 85) = wA at *
  refine ((HB.out _ HF1.out).check).mono ?_
  rintro e w3 ⟨rfl, hf3⟩
  have HF3 : Hid (Fr (fun _ => False) wA w3) := hf3
  have HS3 : Hid (∀ w', Fr (fun _ => False) w3 w' → w'.cell? ⟨w1.heap.size, 0, none⟩ = some (.int .i64 base) ∧ w'.cell? ⟨w1.heap.size, 1, none⟩ = some (.int .i64 t) ∧ w'.cell? ⟨w1.heap.size, 2, none⟩ = some (.int .i64 Z) ∧ w'.cell? ⟨w1.heap.size, 3, none⟩ = some (.int .i64 O) ∧ w'.cell? ⟨w1.heap.size, 4, none⟩ = some (.bool skip)) := fun w' f => by
    obtain ⟨p0, p1, p2, p3, p4, _⟩ := cell_of_five (HBX.out w' (HF3.out.trans f (fun _ _ h => h))).2
    exact ⟨p0, p1, p2, p3, p4⟩
  clear hf3 q0 q1 q2 qf hwA
  obtain ⟨p0, p1, p2, p3, p4⟩ := HS3.out w3 (Fr.refl _ _)
  go_wp2_with fail
  go_region_held3 (fun w' => w'.cell? ⟨w1.heap.size, 0, none⟩ = some (.int .i64 base) ∧ w'.cell? ⟨w1.heap.size, 1, none⟩ = some (.int .i64 t) ∧ w'.cell? ⟨w1.heap.size, 2, none⟩ = some (.int .i64 Z) ∧ w'.cell? ⟨w1.heap.size, 3, none⟩ = some (.int .i64 O) ∧ w'.cell? ⟨w1.heap.size, 4, none⟩ = some (.bool skip)) (exact HS3.out _ (by repeat (first | with_reducible exact Fr.refl _ _ | with_reducible refine Fr.drew ?_ | with_reducible refine Fr.trans ?_ hf5 (fun _ _ hh => hh)))) (first | (go_at_call 50; refine (HCt.out _ ((HF1.out.trans HF3.out (fun _ _ h => h)).drew)).mono ?_; rintro e w4 ⟨rfl, rfl⟩) | (go_at_call 49; refine (HFt.out _).mono ?_; rintro e w5 ⟨rfl, hf5⟩))
  have HF5 : Hid (Fr (fun _ => False) wA w5) := HF3.out.drew.trans hf5 (fun _ _ h => h)
  clear hf5 p0 p1 p2 p3 p4
  obtain ⟨q0, q1, q2, qf⟩ := cell_of_three (HBX.out _ HF5.out).1
  go_wp2_with fail
  refine (HCl.out _ (HF1.out.trans HF5.out (fun _ _ h => h))).mono ?_
  rintro e w6 ⟨g, cap, rfl, hrow, hf6, hg6⟩
  have HF6 : Hid (Fr (fun _ => False) wA w6) := HF5.out.trans hf6 (fun _ _ h => h)
  have hbx6 := HBX.out _ HF6.out
  have hg7 : w.heap.size < g := by
    have h1 := (HF1.out.trans HF5.out (fun _ _ h => h)).size
    have h2 := lt_of_block (HBX.out _ HF5.out).1
    omega
  have HG : Hid (w.heap.size ≤ g) := Nat.le_of_lt hg7
  have HF7 : Hid (Fr (fun _ => False) w (w6.setCell ⟨w.heap.size, 2, none⟩ (.slice (some ⟨g, 0, none⟩) n0 cap))) := (HF1.out.trans HF6.out (fun _ _ h => h)).trans ((Fr.refl (fun k => k = w.heap.size) w6).setCell (p := ⟨w.heap.size, 2, none⟩) (fun _ => rfl) _) (fun i hi e => by omega)
  have HR7 : Hid (RowAt (w6.setCell ⟨w.heap.size, 2, none⟩ (.slice (some ⟨g, 0, none⟩) n0 cap)) g cap W H P) := hrow.kept ((Fr.refl (fun k => k = w.heap.size) w6).setCell (p := ⟨w.heap.size, 2, none⟩) (fun _ => rfl) _) (by omega)
  have hb7 : (w6.setCell ⟨w.heap.size, 2, none⟩ (.slice (some ⟨g, 0, none⟩) n0 cap)).heap[w.heap.size]? = some (.cells #[.int .i64 W, .int .i64 H, .slice (some ⟨g, 0, none⟩) n0 cap] 26 (0, 0)) := by simp [World.setCell, Array.getElem?_modify, hbx6.1]
  have hb8 : (w6.setCell ⟨w.heap.size, 2, none⟩ (.slice (some ⟨g, 0, none⟩) n0 cap)).heap[w1.heap.size]? = some (.cells #[.int .i64 base, .int .i64 t, .int .i64 Z, .int .i64 O, .bool skip] 85 (0, 0)) := by rw [Below.heap_setCell _ _ _ _ (fun e => by have e2 : w1.heap.size = w.heap.size := e; omega)]; exact hbx6.2
  obtain ⟨y0, y1, y2, yf⟩ := cell_of_three hb7
  obtain ⟨z0, z1, z2, z3, z4, zf⟩ := cell_of_five hb8
  clear q0 q1 q2 qf
  obtain ⟨q0, q1, q2, qf⟩ := cell_of_three hbx6.1
  clear hrow hf6 hg6 hbx6 hb7 hb8 yf zf hg7
  go_wp2_with fail
  refine (HTh.out _ g cap HF7.out HR7.out HG.out).mono ?_
  rintro e w8 ⟨rfl, gb', cb', hc8, ho8, hs8⟩
  have H8 : Hid (CoAt w8 bc gc cc gb' cb' (runL o (rowsD base t W skip P H)) ∧ Ook (runL o (rowsD base t W skip P H)) ∧ CStep bc gc gb gb' w w8) := ⟨hc8, ho8, hs8⟩
  clear hc8 ho8 hs8
  go_wp2_with fail
  go_ret
  exact ⟨rfl, gb', cb', H8.out.1, H8.out.2.1, H8.out.2.2⟩

end Go.Proofs.Ytkggdnkmaldmlaa

/- Package generic: repeats, by a decoder. -/
namespace Go.Proofs.Ytkggdnkmaldmlaa
open Go.RowKit

set_option maxRecDepth 100000 in
set_option maxHeartbeats 2000000 in
theorem repeats_d (v : Value) (D : Who 128 v) (base t W H y g cap rc : Nat) (skip : Bool) (up : Value) (P : Pxs) (w : World) (s : D.S)
    (hD : D.At w s) (hl : 0 < D.left (D.abs s)) (hr : RowAt w g cap W H P) (hg : ¬ D.own s g) (hup : ∀ w', Fr (fun k => D.own s k) w w' → Seen w' up (upL W P y)) (ht : t < 4) (hy : y < H) (h1 : 1 ≤ W) (h2 : 1 ≤ H) (h3 : W * H ≤ 1048576) (hb : base ≤ 131072) :
    Calls Try.prog 80 #[procV base t skip, .iface 116 v, .slice (some ⟨g, y * stride W, none⟩) (stride W) rc, up] w fun e w' => e = .returned (.bool (decide ((D.ask (D.abs s) ((base + sizeT t : Nat) : Int) (sameR W P y).toNat).1 ≠ 0))) ∧ ∃ s', D.At w' s' ∧ D.abs s' = (D.ask (D.abs s) ((base + sizeT t : Nat) : Int) (sameR W P y).toNat).2 ∧
      RowAt w' g cap W H (if (D.ask (D.abs s) ((base + sizeT t : Nat) : Int) (sameR W P y).toNat).1 = 0 then P else copyR W P y) ∧ Fr (fun k => D.own s k ∨ k = g) w w' ∧ (∀ k, D.own s' k → D.own s k ∨ w.heap.size ≤ k) := by
  obtain ⟨f1, f2, f3⟩ := size_facts h1 h2 h3
  have hS : stride W ≤ 1048576 := by unfold stride; omega
  have hHS : y * stride W + stride W ≤ H * stride W := by
    have := Nat.mul_le_mul_right (stride W) (show y + 1 ≤ H by omega)
    rw [Nat.add_mul, Nat.one_mul] at this; exact this
  have hrow : ∀ w', Fr (fun _ => False) w w' → Seen w' (.slice (some ⟨g, y * stride W, none⟩) (stride W) rc) (lineL W P y) := fun w' f => by
    have hr' := hr.kept f (fun h => h)
    refine ⟨_, rc, by rw [length_lineL], by rw [length_lineL]; omega, fun _ => ⟨g, y * stride W, rfl, fun j hj => ?_⟩⟩
    rw [length_lineL] at hj
    rw [World.ownsRow.cellAt hr' _ (by omega), wordCells_get, render_get P hy hj, lineL_get W P y j hj]; rfl
  have HQ : Hid (∀ w', Fr (fun _ => False) w w' → Calls Try.prog 94 #[.slice (some ⟨g, y * stride W, none⟩) (stride W) rc, up] w' fun e w'' => e = .returned (.bool (sameR W P y)) ∧ Fr (fun _ => False) w' w'') := fun w' f => by
    have := eqs_any _ _ (lineL W P y) (upL W P y) w' (hrow w' f) (hup w' (f.mono (fun _ _ h => h.elim)))
    rwa [same_words] at this
  have hZ := sizeT_le t ht
  have hasb : (sameR W P y).toNat < 2 := by have := Bool.toNat_le (sameR W P y); omega
  have HA : Hid (∀ (w' : World) (bi : Int), bi = ((sameR W P y).toNat : Nat) → Fr (fun _ => False) w w' → Calls Try.prog 128 #[v, .int .i64 ((base : Int) + (sizeT t : Nat)), .int .i64 bi] w' fun e w'' => e = .returned (.int .i64 ((D.ask (D.abs s) ((base + sizeT t : Nat) : Int) (sameR W P y).toNat).1 : Nat)) ∧ ∃ s', D.At w'' s' ∧ D.abs s' = (D.ask (D.abs s) ((base + sizeT t : Nat) : Int) (sameR W P y).toNat).2 ∧ Fr (D.own s) w' w'' ∧ (∀ k, D.own s' k → D.own s k ∨ w'.heap.size ≤ k)) := fun w' bi hbi f => by
    have := D.calls w' s ((base + sizeT t : Nat) : Int) (sameR W P y).toNat (D.kept hD f (fun _ _ h => h)) hl (by omega) hasb
    rw [hbi]
    rwa [show ((base + sizeT t : Nat) : Int) = (base : Int) + (sizeT t : Nat) by omega] at this ⊢
  have hlt : (D.ask (D.abs s) ((base + sizeT t : Nat) : Int) (sameR W P y).toNat).1 < 2 := D.ask_lt _ _ _ hasb
  generalize D.ask (D.abs s) ((base + sizeT t : Nat) : Int) (sameR W P y).toNat = r at *
  obtain ⟨z, a⟩ := r
  simp only [] at HA hlt ⊢
  generalize sameR W P y = sm at *
  have HR : Hid (RowAt w g cap W H P) := hr
  have HG : Hid (¬ D.own s g) := hg
  have HUP : Hid (∀ w', Fr (fun k => D.own s k) w w' → Seen w' up (upL W P y)) := hup
  have HY : Hid (y < H ∧ 1 ≤ W ∧ stride W ≤ 1048576) := ⟨hy, h1, hS⟩
  obtain ⟨ao, cu, hupv, _, _⟩ := hup w (Fr.refl _ _)
  rw [length_upL] at hupv
  subst hupv
  unfold procV
  clear hup hrow hr hg hD hl hy h1 h2 h3 f1 f2 f3 hHS ht hS
  generalize sizeT t = Z at *
  go_enter Try.func80, Try.ntmps80
  go_wp2_with fail
  refine (HQ.out _ ((Fr.refl _ _).alloc _)).mono ?_
  rintro e w1 ⟨rfl, hf1⟩
  have hb1 : w1.heap[w.heap.size]? = some (.cells #[.int .i64 base, .int .i64 t, .int .i64 Z, .int .i64 ((2 ^ cntS t 2 - 1 : Nat) : Int), .bool skip] 85 (0, 0)) := (hf1.block _ (by simp) (fun hh => hh)).trans (heap_alloc_new w _)
  obtain ⟨p0, p1, p2, p3, p4, pf⟩ := cell_of_five hb1
  have HF1 : Hid (Fr (fun _ => False) w w1) := ((Fr.refl _ _).alloc _).trans hf1 (fun _ _ h => h)
  clear HQ hf1 hb1 hasb
  cases sm
  all_goals
    (go_wp2_with fail
     refine (HA.out w1 _ rfl HF1.out).mono ?_
     rintro e w2 ⟨rfl, s', hat, habs, hf2, hown⟩
     have HS : Hid (D.At w2 s' ∧ Fr (D.own s) w w2 ∧ (∀ k, D.own s' k → D.own s k ∨ w.heap.size ≤ k)) := ⟨hat, (HF1.out.mono (fun _ _ h => h.elim)).trans hf2 (fun _ _ h => h), fun k hk => by have h1 := HF1.out.size; rcases hown k hk with h | h; exact Or.inl h; exact Or.inr (by omega)⟩
     have HAB : Hid (D.abs s' = a) := habs
     clear hat habs hf2 hown p0 p1 p2 p3 p4 pf
     rcases (show z = 0 ∨ z = 1 by omega) with rfl | rfl
     · go_wp2_with fail
       go_ret
       exact ⟨rfl, s', HS.out.1, HAB.out, HR.out.kept HS.out.2.1 HG.out, HS.out.2.1.mono (fun _ _ h => Or.inl h), HS.out.2.2⟩
     · have hr2 := HR.out.kept HS.out.2.1 HG.out
       obtain ⟨cur, hc, hcap, hcm, hcs, hct⟩ := hr2.cur
       have hsn := HUP.out w2 HS.out.2.1
       have HC : Hid (RowAt (w2.setRow g (cur.toList.take (y * stride W) ++ (wordCells (upL W P y) ++ cur.toList.drop (y * stride W + stride W))).toArray) g cap W H (copyR W P y) ∧ Fr (fun k => k = g) w2 (w2.setRow g (cur.toList.take (y * stride W) ++ (wordCells (upL W P y) ++ cur.toList.drop (y * stride W + stride W))).toArray)) := hr2.copied hc HY.out.1 HY.out.2.1
       have HAG : Hid (∀ k, D.own s' k → k ≠ g) := fun k hk e => by
         subst e
         rcases HS.out.2.2 k hk with h | h
         · exact HG.out h
         · have := HR.out.lt; omega
       obtain ⟨ao', cu', hv, _, hcell⟩ := hsn
       have hSp : 0 < stride W := stride_pos (by have := HY.out.2.1; omega)
       obtain ⟨bu, ou, hao, hcu⟩ := hcell (by intro e; have := congrArg List.length e; rw [length_upL] at this; simp at this; omega)
       rw [length_upL] at hv hcu
       simp only [Value.slice.injEq] at hv
       obtain ⟨hao2, _, hcuc⟩ := hv
       rw [hao] at hao2
       subst hao2
       have HCU : Hid (∀ (j : Nat) (u : Value), (wordCells (upL W P y))[j]? = some u → w2.cell? ((⟨bu, ou, none⟩ : Addr).add j) = some u) := fun j u hu => by
         have hj : j < stride W := by
           rcases Nat.lt_or_ge j (stride W) with h2 | h2
           · exact h2
           · rw [List.getElem?_eq_none (by rw [length_wordCells, length_upL]; exact h2)] at hu; cases hu
         have := hcu j hj
         rw [wordCells_get, upL_get W P y j hj] at hu
         rw [upL_get W P y j hj] at this
         rw [show (⟨bu, ou, none⟩ : Addr).add j = ⟨bu, ou + j, none⟩ from by unfold Addr.add; split <;> simp_all, this]
         exact hu
       have hfit : y * stride W + (wordCells (upL W P y)).length ≤ cur.size := by
         have := Nat.mul_le_mul_right (stride W) (show y + 1 ≤ H by have := HY.out.1; omega)
         rw [Nat.add_mul, Nat.one_mul] at this
         rw [length_wordCells, length_upL]; omega
       have hmn : (wordCells (upL W P y)).length = Nat.min (stride W) (stride W) := by rw [length_wordCells, length_upL]; exact (Nat.min_self _).symm
       have hwl : (wordCells (upL W P y)).length = stride W := by rw [length_wordCells, length_upL]
       have hone := wordCells_one (upL W P y)
       clear hao hcu hcell hr2 hct hcm hcap hcs
       generalize wordCells (upL W P y) = cs at *
       have hrun := run_copy_row (P := Try.prog) w2 24 24 3 83 g (y * stride W) (stride W) rc ⟨bu, ou, none⟩ (stride W) cu cur 83 cs Try.underlying24 (by kernel_rfl) hc hmn HCU.out hfit hone
       rw [List.append_assoc, hwl] at hrun
       have hc2 := HC.out.1
       have hf3 := HC.out.2
       generalize (w2.setRow g (cur.toList.take (y * stride W) ++ (cs ++ cur.toList.drop (y * stride W + stride W))).toArray) = w3 at *
       clear hc
       have HC2 : Hid (RowAt w3 g cap W H (copyR W P y)) := hc2
       have HF3 : Hid (Fr (fun k => k = g) w2 w3) := hf3
       clear hc2 hf3 HC hone hfit hmn hwl HCU
       subst hcuc
       go_wp2_with fail
       go_ret
       exact ⟨rfl, s', D.kept HS.out.1 HF3.out (fun k hk e => HAG.out k hk e), HAB.out, HC2.out, (HS.out.2.1.mono (fun _ _ h => Or.inl h)).trans HF3.out (fun _ _ e => Or.inr e), HS.out.2.2⟩)

end Go.Proofs.Ytkggdnkmaldmlaa
