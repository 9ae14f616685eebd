/- Package generic: Put, of what may be. -/
import Derived.Test.YtkggdnkmaldmlabKNp
import Derived.Test.YtkggdnkmaldmlabKThc
namespace Go.Proofs.Ytkggdnkmaldmlab
open Go.RowKit

set_option maxRecDepth 100000 in
set_option maxHeartbeats 4000000 in
theorem gput_ok (bc gc cc gb cb : Nat) (o : Co) (base t W H : Nat) (v : Value) (P : Pxs) (skip : Bool) (w : World) (hc : CoAt w bc gc cc gb cb o) (hok : Ook o) (hb : Bm w v W H P) (ht : t < 4) (hbase : base + sizeT t + 1 ≤ o.x.length) (hm : o.made + H * (W + 1) ≤ 16777216) :
    Calls Try.prog 8 #[.pointer (some ⟨bc, 0, none⟩), .int .i64 base, .agg #[.int .i64 W, .int .i64 H, v], .int .i64 t, .bool skip] w fun e w' => e = .returned (.int .i64 0) ∧ ∃ gb' cb', CoAt w' bc gc cc gb' cb' (runL o (rowsD base t W skip P H)) ∧ Ook (runL o (rowsD base t W skip P H)) ∧ CStep bc gc gb gb' w w' := by
  obtain ⟨f1, f2, f3⟩ := size_facts hb.h1 hb.h2 hb.h3
  have hlim := hok.lim
  have HC : Hid (∀ w', Fr (fun _ => False) w w' → CoAt w' bc gc cc gb cb o) := fun w' f => hc.kept f (fun x => x) (fun x => x) (fun x => x)
  have HB : Hid (∀ w', Fr (fun _ => False) w w' → Bm w' v W H P) := fun w' f => hb.kept f
  have hH : 0 < H * stride W := Nat.mul_pos (by have := hb.h2; omega) (stride_pos (by have := hb.h1; omega))
  obtain ⟨a0, o0, cv, hv⟩ : ∃ a0 o0 cv, v = .slice (some ⟨a0, o0, none⟩) (H * stride W) cv := by
    obtain ⟨ao, cap, rfl, _, hcc⟩ := hb.seen
    obtain ⟨b, off, rfl, _⟩ := hcc (by intro e; have := congrArg List.length e; rw [length_render] at this; simp at this; omega)
    exact ⟨b, off, cap, by rw [length_render]⟩
  have HCl : Hid (∀ w', Fr (fun _ => False) w w' → Calls Try.prog 26 #[v] w' fun e w'' => ∃ g cap, e = .returned (.slice (some ⟨g, 0, none⟩) (H * stride W) cap) ∧ RowAt w'' g cap W H P ∧ Fr (fun _ => False) w' w'' ∧ w'.heap.size ≤ g) := fun w' f => by
    have hb' := hb.kept f
    subst hv
    refine (cloneW_some _ _ cv (render W H P) w' (length_render W H P) f3 ?_).mono ?_
    · intro j u hu
      have hj : j < H * stride W := by
        rcases Nat.lt_or_ge j (H * stride W) with h2 | h2
        · exact h2
        · rw [List.getElem?_eq_none (by rw [length_wordCells, length_render]; exact h2)] at hu; cases hu
      obtain ⟨ao, cap, e, _, hcc⟩ := hb'.seen
      obtain ⟨b, off, rfl, hcell⟩ := hcc (by intro e; have := congrArg List.length e; rw [length_render] at this; simp at this; omega)
      simp only [Value.slice.injEq, Option.some.injEq, Addr.mk.injEq, and_true] at e
      obtain ⟨⟨rfl, rfl⟩, _, _⟩ := e
      have := hcell j (by rw [length_render]; exact hj)
      rw [show (⟨a0, o0, none⟩ : Addr).add j = ⟨a0, o0 + j, none⟩ from by unfold Addr.add; split <;> simp_all, this, ← hu, wordCells_get, render_get' P hj]; rfl
    · rintro e w2 ⟨rv, rfl, ho, hf2, hnn⟩
      obtain ⟨g2, cap2, hrv, hg2⟩ := row_out ho hnn
      subst hrv
      exact ⟨g2, cap2, rfl, ownsRow_base ho (fun _ _ => Nat.zero_le _), hf2, hg2⟩
  have HTh : Hid (∀ (w' : World) (g cap : Nat), Fr (fun _ => False) w w' → RowAt w' g cap W H P → w.heap.size ≤ g → Calls Try.prog 27 #[.agg #[.pointer (some ⟨bc, 0, none⟩)], procV base t skip, .agg #[.int .i64 W, .int .i64 H, .slice (some ⟨g, 0, none⟩) (H * stride W) cap]] w' fun e w'' => e = .returned (.int .i64 0) ∧ ∃ gb' cb', CoAt w'' bc gc cc gb' cb' (runL o (rowsD base t W skip P H)) ∧ Ook (runL o (rowsD base t W skip P H)) ∧ CStep bc gc gb gb' w w'') := fun w' g cap f hr hg => by
    have hco := hc.kept f (fun x => x) (fun x => x) (fun x => x)
    have hl := hc.lt
    have hxl := hc.xlt
    have hbl := hc.blt
    refine (through_c (some ⟨bc, 0, none⟩) (whoC bc gc cc) base t W H g cap skip P w' ⟨gb, cb, o⟩ ⟨hco, hok⟩ (by show _ ≤ 16777216 - o.made; omega) hr (by show ¬ (g = bc ∨ g = gc ∨ g = gb); omega) (fun x y _ _ => by show (P x y).toNat < 2; have := Bool.toNat_le (P x y); omega) ht hb.h1 hb.h2 hb.h3 (by omega)).mono ?_
    rintro e w2 ⟨rfl, s', hat, habs, _, hf2, how⟩
    have e1 : (thrW askC base t W skip H (o, P)).1 = runL o (rowsD base t W skip P H) := by rw [thrW_coder]
    have h1 : s'.o = runL o (rowsD base t W skip P H) := by rw [← e1]; exact habs
    refine ⟨rfl, s'.gb, s'.cb, ?_, ?_, ?_⟩
    · rw [← h1]; exact hat.1
    · rw [← h1]; exact hat.2
    · have hsz := f.size
      refine ⟨?_, ?_⟩
      · refine (f.mono (fun _ _ h => h.elim)).trans hf2 (fun i hi e => ?_)
        rcases e with e | e
        · exact e
        · omega
      · rcases how s'.gb (Or.inr (Or.inr rfl)) with a | a
        · have a' : s'.gb = bc ∨ s'.gb = gc ∨ s'.gb = gb := a
          have hn1 := hat.1.neb
          have hn2 := hat.1.nexb
          rcases a' with a | a | a
          · exact absurd a hn1
          · exact absurd a hn2
          · exact Or.inl a
        · exact Or.inr (by omega)
  have HNP : Hid (∀ w', Calls Try.prog 22 #[.int .i64 base, .int .i64 t, .bool skip] w' fun e w'' => e = .returned (.tuple #[procV base t skip, .int .i64 0]) ∧ Fr (fun _ => False) w' w'') := fun w' => newProc_ok base t skip ht w'
  have HFt : Hid (∀ w', Calls Try.prog 24 #[procV base t skip, .int .i64 (o.x.length : Nat)] w' fun e w'' => e = .returned (.bool true) ∧ Fr (fun _ => False) w' w'') := fun w' => by
    have := fits_pos base t skip o.x.length ht (by omega) hlim w'
    rwa [decide_eq_true hbase] at this
  have HCt : Hid (∀ w', Fr (fun _ => False) w w' → Calls Try.prog 25 #[.pointer (some ⟨bc, 0, none⟩)] w' fun e w'' => e = .returned (.int .i64 (o.x.length : Nat)) ∧ w'' = w') := fun w' f => by
    obtain ⟨e0, _⟩ := cell_of_seven (hc.kept f (fun x => x) (fun x => x) (fun x => x)).blk
    exact contexts_at w' bc gc cc _ e0 hlim
  obtain ⟨n0, HN0⟩ : ∃ n0, Hid (n0 = H * stride W) := ⟨_, rfl⟩
  rw [← HN0.out] at hv HCl HTh
  subst hv
  unfold procV at *
  clear hc hb hbase hm hok hH f3
  generalize sizeT t = Z at *
  generalize o.x.length = X at *
  generalize 2 ^ cntS t 2 - 1 = O at *
  go_enter Try.func8, Try.ntmps8
  go_wp2_with fail
  refine (HNP.out _).mono ?_
  rintro e w1 ⟨rfl, hf1⟩
  have HF1 : Hid (Fr (fun _ => False) w (w1.alloc (.cells #[.int .i64 base, .int .i64 t, .int .i64 Z, .int .i64 O, .bool skip] 62))) := (((Fr.refl _ _).alloc _).trans hf1 (fun _ _ h => h)).alloc _
  have hs1 : w.heap.size < w1.heap.size := by have := hf1.size; simp at this; omega
  have HBX : Hid (∀ w', Fr (fun _ => False) (w1.alloc (.cells #[.int .i64 base, .int .i64 t, .int .i64 Z, .int .i64 O, .bool skip] 62)) w' → w'.heap[w.heap.size]? = some (.cells #[.int .i64 W, .int .i64 H, .slice (some ⟨a0, o0, none⟩) n0 cv] 24 (0, 0)) ∧ w'.heap[w1.heap.size]? = some (.cells #[.int .i64 base, .int .i64 t, .int .i64 Z, .int .i64 O, .bool skip] 62 (0, 0))) := fun w' f => by
    refine ⟨?_, ?_⟩
    · rw [f.block _ (by simp; omega) (fun h => h), Below.heap_alloc _ _ _ hs1, hf1.block _ (by simp) (fun h => h)]; exact heap_alloc_new w _
    · rw [f.block _ (by simp) (fun h => h)]; exact heap_alloc_new w1 _
  have hbx := HBX.out _ (Fr.refl _ _)
  obtain ⟨q0, q1, q2, qf⟩ := cell_of_three hbx.1
  clear hf1 hbx
  go_wp2_with fail
  generalize hwA : w1.alloc (.cells #[.int .i64 base, .int .i64 t, .int .i64 Z, .int .i64 O, .bool skip] 62) = wA at *
  refine ((HB.out _ HF1.out).check).mono ?_
  rintro e w3 ⟨rfl, hf3⟩
  have HF3 : Hid (Fr (fun _ => False) wA w3) := hf3
  have HS3 : Hid (∀ w', Fr (fun _ => False) w3 w' → w'.cell? ⟨w1.heap.size, 0, none⟩ = some (.int .i64 base) ∧ w'.cell? ⟨w1.heap.size, 1, none⟩ = some (.int .i64 t) ∧ w'.cell? ⟨w1.heap.size, 2, none⟩ = some (.int .i64 Z) ∧ w'.cell? ⟨w1.heap.size, 3, none⟩ = some (.int .i64 O) ∧ w'.cell? ⟨w1.heap.size, 4, none⟩ = some (.bool skip)) := fun w' f => by
    obtain ⟨p0, p1, p2, p3, p4, _⟩ := cell_of_five (HBX.out w' (HF3.out.trans f (fun _ _ h => h))).2
    exact ⟨p0, p1, p2, p3, p4⟩
  clear hf3 q0 q1 q2 qf hwA
  obtain ⟨p0, p1, p2, p3, p4⟩ := HS3.out w3 (Fr.refl _ _)
  go_wp2_with fail
  go_region_held3 (fun w' => w'.cell? ⟨w1.heap.size, 0, none⟩ = some (.int .i64 base) ∧ w'.cell? ⟨w1.heap.size, 1, none⟩ = some (.int .i64 t) ∧ w'.cell? ⟨w1.heap.size, 2, none⟩ = some (.int .i64 Z) ∧ w'.cell? ⟨w1.heap.size, 3, none⟩ = some (.int .i64 O) ∧ w'.cell? ⟨w1.heap.size, 4, none⟩ = some (.bool skip)) (exact HS3.out _ (by repeat (first | with_reducible exact Fr.refl _ _ | with_reducible refine Fr.drew ?_ | with_reducible refine Fr.trans ?_ hf5 (fun _ _ hh => hh)))) (first | (go_at_call 25; refine (HCt.out _ ((HF1.out.trans HF3.out (fun _ _ h => h)).drew)).mono ?_; rintro e w4 ⟨rfl, rfl⟩) | (go_at_call 24; refine (HFt.out _).mono ?_; rintro e w5 ⟨rfl, hf5⟩))
  have HF5 : Hid (Fr (fun _ => False) wA w5) := HF3.out.drew.trans hf5 (fun _ _ h => h)
  clear hf5 p0 p1 p2 p3 p4
  obtain ⟨q0, q1, q2, qf⟩ := cell_of_three (HBX.out _ HF5.out).1
  go_wp2_with fail
  refine (HCl.out _ (HF1.out.trans HF5.out (fun _ _ h => h))).mono ?_
  rintro e w6 ⟨g, cap, rfl, hrow, hf6, hg6⟩
  have HF6 : Hid (Fr (fun _ => False) wA w6) := HF5.out.trans hf6 (fun _ _ h => h)
  have hbx6 := HBX.out _ HF6.out
  have hg7 : w.heap.size < g := by
    have h1 := (HF1.out.trans HF5.out (fun _ _ h => h)).size
    have h2 := lt_of_block (HBX.out _ HF5.out).1
    omega
  have HG : Hid (w.heap.size ≤ g) := Nat.le_of_lt hg7
  have HF7 : Hid (Fr (fun _ => False) w (w6.setCell ⟨w.heap.size, 2, none⟩ (.slice (some ⟨g, 0, none⟩) n0 cap))) := (HF1.out.trans HF6.out (fun _ _ h => h)).trans ((Fr.refl (fun k => k = w.heap.size) w6).setCell (p := ⟨w.heap.size, 2, none⟩) (fun _ => rfl) _) (fun i hi e => by omega)
  have HR7 : Hid (RowAt (w6.setCell ⟨w.heap.size, 2, none⟩ (.slice (some ⟨g, 0, none⟩) n0 cap)) g cap W H P) := hrow.kept ((Fr.refl (fun k => k = w.heap.size) w6).setCell (p := ⟨w.heap.size, 2, none⟩) (fun _ => rfl) _) (by omega)
  have hb7 : (w6.setCell ⟨w.heap.size, 2, none⟩ (.slice (some ⟨g, 0, none⟩) n0 cap)).heap[w.heap.size]? = some (.cells #[.int .i64 W, .int .i64 H, .slice (some ⟨g, 0, none⟩) n0 cap] 24 (0, 0)) := by simp [World.setCell, Array.getElem?_modify, hbx6.1]
  have hb8 : (w6.setCell ⟨w.heap.size, 2, none⟩ (.slice (some ⟨g, 0, none⟩) n0 cap)).heap[w1.heap.size]? = some (.cells #[.int .i64 base, .int .i64 t, .int .i64 Z, .int .i64 O, .bool skip] 62 (0, 0)) := by rw [Below.heap_setCell _ _ _ _ (fun e => by have e2 : w1.heap.size = w.heap.size := e; omega)]; exact hbx6.2
  obtain ⟨y0, y1, y2, yf⟩ := cell_of_three hb7
  obtain ⟨z0, z1, z2, z3, z4, zf⟩ := cell_of_five hb8
  clear q0 q1 q2 qf
  obtain ⟨q0, q1, q2, qf⟩ := cell_of_three hbx6.1
  clear hrow hf6 hg6 hbx6 hb7 hb8 yf zf hg7
  go_wp2_with fail
  refine (HTh.out _ g cap HF7.out HR7.out HG.out).mono ?_
  rintro e w8 ⟨rfl, gb', cb', hc8, ho8, hs8⟩
  have H8 : Hid (CoAt w8 bc gc cc gb' cb' (runL o (rowsD base t W skip P H)) ∧ Ook (runL o (rowsD base t W skip P H)) ∧ CStep bc gc gb gb' w w8) := ⟨hc8, ho8, hs8⟩
  clear hc8 ho8 hs8
  go_wp2_with fail
  go_ret
  exact ⟨rfl, gb', cb', H8.out.1, H8.out.2.1, H8.out.2.2⟩

end Go.Proofs.Ytkggdnkmaldmlab
