/- Package refine: mayShift, fits, Put of what may be. -/
import Derived.Test.YtmfpoabhmpljgaaK21
import Derived.Test.YtmfpoabhmpljgaaK22
namespace Go.Proofs.Ytmfpoabhmpljgaa
open Go.RowKit

/-- May a shift be? -/
def mayS (dx dy : Int) : Bool := decide ((-1048576 ≤ dx ∧ dx ≤ 1048576) ∧ (-1048576 ≤ dy ∧ dy ≤ 1048576))

set_option maxRecDepth 100000 in
set_option maxHeartbeats 1000000 in
theorem mayShift_any (dx dy : Int) (w : World) : Calls Try.prog 48 #[.int .i64 dx, .int .i64 dy] w fun e w' => e = .returned (.bool (mayS dx dy)) ∧ w' = w := by
  by_cases h1 : -1048576 ≤ dx
  · by_cases h2 : dx ≤ 1048576
    · by_cases h3 : -1048576 ≤ dy
      · have hm : mayS dx dy = decide (dy ≤ 1048576) := by unfold mayS; simp [h1, h2, h3]
        rw [hm]
        go_enter Try.func48, Try.ntmps48
        go_wp2_with fail
        go_ret
        exact ⟨rfl, rfl⟩
      · have hm : mayS dx dy = false := by unfold mayS; simp [h3]
        rw [hm]
        go_enter Try.func48, Try.ntmps48
        go_wp2_with fail
        go_ret
        exact ⟨rfl, rfl⟩
    · have hm : mayS dx dy = false := by unfold mayS; simp [h2]
      rw [hm]
      go_enter Try.func48, Try.ntmps48
      go_wp2_with fail
      go_ret
      exact ⟨rfl, rfl⟩
  · have hm : mayS dx dy = false := by unfold mayS; simp [h1]
    rw [hm]
    go_enter Try.func48, Try.ntmps48
    go_wp2_with fail
    go_ret
    exact ⟨rfl, rfl⟩

set_option maxRecDepth 100000 in
set_option maxHeartbeats 1000000 in
theorem fits_ok (base n : Nat) (w : World) (h : base + 8192 ≤ n) (hn : n ≤ 131072) : Calls Try.prog 49 #[.int .i64 base, .int .i64 n] w fun e w' => e = .returned (.bool true) ∧ w' = w := by
  have g1 : IntKind.i64.wrap ((n : Int) - 8192) = (n : Int) - 8192 := by rw [IntKind.wrap_i64]; omega
  have h0 : decide ((0 : Int) ≤ (base : Int)) = true := decide_eq_true (by omega)
  have h1 : decide ((base : Int) ≤ (n : Int) - 8192) = true := decide_eq_true (by omega)
  go_enter Try.func49, Try.ntmps49
  go_wp2_with fail
  go_ret
  simp

set_option maxRecDepth 100000 in
set_option maxHeartbeats 4000000 in
theorem rfput_ok (bc gc cc gb cb : Nat) (o : Co) (base W H : Nat) (v : Value) (P : Pxs) (WR HR : Nat) (vR : Value) (PR : Pxs) (dx dy : Int) (w : World) (hc : CoAt w bc gc cc gb cb o) (hok : Ook o) (hb : Bm w v W H P) (hR : ∀ w', Fr (fun k => k = bc ∨ k = gc ∨ k = gb) w w' → Bm w' vR WR HR PR)
    (hdx : -1048576 ≤ dx ∧ dx ≤ 1048576) (hdy : -1048576 ≤ dy ∧ dy ≤ 1048576) (hbase : base + 8192 ≤ o.x.length) (hm : o.made + H * W ≤ 16777216) :
    Calls Try.prog 29 #[.pointer (some ⟨bc, 0, none⟩), .int .i64 base, .agg #[.int .i64 W, .int .i64 H, v], .agg #[.int .i64 WR, .int .i64 HR, vR], .int .i64 dx, .int .i64 dy] w fun e w' => e = .returned (.int .i64 0) ∧ ∃ gb' cb', CoAt w' bc gc cc gb' cb' (runL o (rowsD (cxR W (refP WR HR PR dx dy)) base W P H)) ∧ Ook (runL o (rowsD (cxR W (refP WR HR PR dx dy)) base W P H)) ∧ CStep bc gc gb gb' w w' := by
  obtain ⟨f1, f2, f3⟩ := size_facts hb.h1 hb.h2 hb.h3
  have hlim := hok.lim
  have HC : Hid (∀ w', Fr (fun _ => False) w w' → CoAt w' bc gc cc gb cb o) := fun w' f => hc.kept f (fun x => x) (fun x => x) (fun x => x)
  have HB : Hid (∀ w', Fr (fun _ => False) w w' → Bm w' v W H P) := fun w' f => hb.kept f
  have HBR : Hid (∀ w', Fr (fun _ => False) w w' → Bm w' vR WR HR PR) := fun w' f => hR w' (f.mono (fun _ _ h => h.elim))
  have hH : 0 < H * stride W := Nat.mul_pos (by have := hb.h2; omega) (stride_pos (by have := hb.h1; omega))
  obtain ⟨a0, o0, cv, hv⟩ : ∃ a0 o0 cv, v = .slice (some ⟨a0, o0, none⟩) (H * stride W) cv := by
    obtain ⟨ao, cap, rfl, _, hcc⟩ := hb.seen
    obtain ⟨b, off, rfl, _⟩ := hcc (by intro e; have := congrArg List.length e; rw [length_render] at this; simp at this; omega)
    exact ⟨b, off, cap, by rw [length_render]⟩
  have HCl : Hid (∀ w', Fr (fun _ => False) w w' → Calls Try.prog 51 #[v] w' fun e w'' => ∃ g cap, e = .returned (.slice (some ⟨g, 0, none⟩) (H * stride W) cap) ∧ RowAt w'' g cap W H P ∧ Fr (fun _ => False) w' w'' ∧ w'.heap.size ≤ g) := fun w' f => by
    have hb' := hb.kept f
    subst hv
    refine (cloneW_some _ _ cv (render W H P) w' (length_render W H P) f3 ?_).mono ?_
    · intro j u hu
      have hj : j < H * stride W := by
        rcases Nat.lt_or_ge j (H * stride W) with h2 | h2
        · exact h2
        · rw [List.getElem?_eq_none (by rw [length_wordCells, length_render]; exact h2)] at hu; cases hu
      obtain ⟨ao, cap, e, _, hcc⟩ := hb'.seen
      obtain ⟨b, off, rfl, hcell⟩ := hcc (by intro e; have := congrArg List.length e; rw [length_render] at this; simp at this; omega)
      simp only [Value.slice.injEq, Option.some.injEq, Addr.mk.injEq, and_true] at e
      obtain ⟨⟨rfl, rfl⟩, _, _⟩ := e
      have := hcell j (by rw [length_render]; exact hj)
      rw [show (⟨a0, o0, none⟩ : Addr).add j = ⟨a0, o0 + j, none⟩ from by unfold Addr.add; split <;> simp_all, this, ← hu, wordCells_get, render_get' P hj]; rfl
    · rintro e w2 ⟨rv, rfl, ho, hf2, hnn⟩
      obtain ⟨g2, cap2, hrv, hg2⟩ := row_out ho hnn
      subst hrv
      exact ⟨g2, cap2, rfl, ownsRow_base ho (fun _ _ => Nat.zero_le _), hf2, hg2⟩
  have HTh : Hid (∀ (w' : World) (g cap : Nat), Fr (fun _ => False) w w' → RowAt w' g cap W H P → w.heap.size + 1 < g → w'.heap[w.heap.size]? = some (.cells #[.pointer (some ⟨bc, 0, none⟩)] 53 (0, 0)) → w'.heap[w.heap.size + 1]? = some (.cells #[.int .i64 base] 3 (0, 0)) →
      Calls Try.prog 52 #[.agg #[.int .i64 W, .int .i64 H, .slice (some ⟨g, 0, none⟩) (H * stride W) cap], .agg #[.int .i64 WR, .int .i64 HR, vR, .int .i64 dx, .int .i64 dy], .func (.func 53) #[] #[.pointer (some ⟨w.heap.size, 0, none⟩), .pointer (some ⟨w.heap.size + 1, 0, none⟩)]] w' fun e w'' => e = .returned (.int .i64 0) ∧ ∃ gb' cb', CoAt w'' bc gc cc gb' cb' (runL o (rowsD (cxR W (refP WR HR PR dx dy)) base W P H)) ∧ Ook (runL o (rowsD (cxR W (refP WR HR PR dx dy)) base W P H)) ∧ CStep bc gc gb gb' w w'') := fun w' g cap f hr hg e1 e2 => by
    have hco := hc.kept f (fun x => x) (fun x => x) (fun x => x)
    have hl := hc.lt
    have hxl := hc.xlt
    have hbl := hc.blt
    refine (through_c w.heap.size (w.heap.size + 1) base (whoC bc gc cc w.heap.size (w.heap.size + 1) base (by omega)) W H g cap P WR HR vR PR dx dy w' ⟨gb, cb, o⟩ ⟨hco, hok, e1, e2, by simp only []; omega, by simp only []; omega⟩ (by show _ ≤ 16777216 - o.made; omega) hr (by show ¬ (g = bc ∨ g = gc ∨ g = gb); omega) (by omega) (fun x y _ _ => by show (P x y).toNat < 2; have := Bool.toNat_le (P x y); omega) hb.h1 hb.h2 hb.h3 (fun w2 f2 => hR w2 ((f.mono (fun _ _ h => h.elim)).trans f2 (fun i hi e => by
      rcases e with e | e
      · exact e
      · omega))) hdx hdy).mono ?_
    rintro e w2 ⟨rfl, s', hat, habs, _, hf2, how⟩
    have e3 : (thrW askC (cxR W (refP WR HR PR dx dy)) base W H (o, P)).1 = runL o (rowsD (cxR W (refP WR HR PR dx dy)) base W P H) := by rw [thrW_coder]
    have h1 : s'.o = runL o (rowsD (cxR W (refP WR HR PR dx dy)) base W P H) := by rw [← e3]; exact habs
    refine ⟨rfl, s'.gb, s'.cb, ?_, ?_, ?_⟩
    · rw [← h1]; exact hat.1
    · rw [← h1]; exact hat.2.1
    · have hsz := f.size
      refine ⟨?_, ?_⟩
      · refine (f.mono (fun _ _ h => h.elim)).trans hf2 (fun i hi e => ?_)
        rcases e with e | e
        · exact e
        · omega
      · rcases how s'.gb (Or.inr (Or.inr rfl)) with a | a
        · have a' : s'.gb = bc ∨ s'.gb = gc ∨ s'.gb = gb := a
          have hn1 := hat.1.neb
          have hn2 := hat.1.nexb
          rcases a' with a | a | a
          · exact absurd a hn1
          · exact absurd a hn2
          · exact Or.inl a
        · exact Or.inr (by omega)
  have HMy : Hid (∀ w', Calls Try.prog 48 #[.int .i64 dx, .int .i64 dy] w' fun e w'' => e = .returned (.bool true) ∧ w'' = w') := fun w' => by
    have := mayShift_any dx dy w'
    rwa [show mayS dx dy = true from decide_eq_true ⟨hdx, hdy⟩] at this
  have HFt : Hid (∀ w', Calls Try.prog 49 #[.int .i64 base, .int .i64 (o.x.length : Nat)] w' fun e w'' => e = .returned (.bool true) ∧ w'' = w') := fun w' => fits_ok base _ w' hbase hlim
  have HCt : Hid (∀ w', Fr (fun _ => False) w w' → Calls Try.prog 50 #[.pointer (some ⟨bc, 0, none⟩)] w' fun e w'' => e = .returned (.int .i64 (o.x.length : Nat)) ∧ w'' = w') := fun w' f => by
    obtain ⟨e0, _⟩ := cell_of_seven (hc.kept f (fun x => x) (fun x => x) (fun x => x)).blk
    exact contexts_at w' bc gc cc _ e0 hlim
  obtain ⟨n0, HN0⟩ : ∃ n0, Hid (n0 = H * stride W) := ⟨_, rfl⟩
  rw [← HN0.out] at hv HCl HTh
  obtain ⟨ar, cr, hvr, -, -⟩ := (hR w (Fr.refl _ _)).seen
  generalize (render WR HR PR).length = n1 at *
  subst hv
  subst hvr
  generalize runL o (rowsD (cxR W (refP WR HR PR dx dy)) base W P H) = RL at *
  have HCk : Hid (∀ w', Fr (fun _ => False) w w' → Calls Try.prog 47 #[.agg #[.int .i64 W, .int .i64 H, .slice (some ⟨a0, o0, none⟩) n0 cv]] w' fun e w'' => e = .returned (.bool true) ∧ Fr (fun _ => False) w' w'') := fun w' f => (HB.out w' f).check
  have HCr : Hid (∀ w', Fr (fun _ => False) w w' → Calls Try.prog 47 #[.agg #[.int .i64 WR, .int .i64 HR, .slice ar n1 cr]] w' fun e w'' => e = .returned (.bool true) ∧ Fr (fun _ => False) w' w'') := fun w' f => (HBR.out w' f).check
  clear hc hb hbase hm hok hH f3 hR
  generalize o.x.length = X at *
  have HA : Hid (Fr (fun _ => False) w ((((w.alloc (.cells #[.pointer (some ⟨bc, 0, none⟩)] 53)).alloc (.cells #[.int .i64 base] 3)).alloc (.cells #[.int .i64 W, .int .i64 H, .slice (some ⟨a0, o0, none⟩) n0 cv] 26)).alloc (.cells #[.int .i64 WR, .int .i64 HR, .slice ar n1 cr] 26))) := ((((Fr.refl _ _).alloc _).alloc _).alloc _).alloc _
  have HBX : Hid (∀ w', Fr (fun _ => False) ((((w.alloc (.cells #[.pointer (some ⟨bc, 0, none⟩)] 53)).alloc (.cells #[.int .i64 base] 3)).alloc (.cells #[.int .i64 W, .int .i64 H, .slice (some ⟨a0, o0, none⟩) n0 cv] 26)).alloc (.cells #[.int .i64 WR, .int .i64 HR, .slice ar n1 cr] 26)) w' → w'.heap[w.heap.size]? = some (.cells #[.pointer (some ⟨bc, 0, none⟩)] 53 (0, 0)) ∧ w'.heap[w.heap.size + 1]? = some (.cells #[.int .i64 base] 3 (0, 0)) ∧ w'.heap[w.heap.size + 1 + 1]? = some (.cells #[.int .i64 W, .int .i64 H, .slice (some ⟨a0, o0, none⟩) n0 cv] 26 (0, 0)) ∧ w'.heap[w.heap.size + 1 + 1 + 1]? = some (.cells #[.int .i64 WR, .int .i64 HR, .slice ar n1 cr] 26 (0, 0))) := fun w' f => by
    have q4 := heap_alloc_new (((w.alloc (.cells #[.pointer (some ⟨bc, 0, none⟩)] 53)).alloc (.cells #[.int .i64 base] 3)).alloc (.cells #[.int .i64 W, .int .i64 H, .slice (some ⟨a0, o0, none⟩) n0 cv] 26)) (.cells #[.int .i64 WR, .int .i64 HR, .slice ar n1 cr] 26)
    have q3 := heap_alloc_new ((w.alloc (.cells #[.pointer (some ⟨bc, 0, none⟩)] 53)).alloc (.cells #[.int .i64 base] 3)) (.cells #[.int .i64 W, .int .i64 H, .slice (some ⟨a0, o0, none⟩) n0 cv] 26)
    have q2 := heap_alloc_new (w.alloc (.cells #[.pointer (some ⟨bc, 0, none⟩)] 53)) (.cells #[.int .i64 base] 3)
    have q1 := heap_alloc_new w (.cells #[.pointer (some ⟨bc, 0, none⟩)] 53)
    simp only [World.size_alloc] at q1 q2 q3 q4
    exact ⟨blkOld f (blkUp (blkUp (blkUp q1 _) _) _), blkOld f (blkUp (blkUp q2 _) _), blkOld f (blkUp q3 _), blkOld f q4⟩
  go_enter Try.func29, Try.ntmps29
  go_wp2_with fail
  generalize ((((w.alloc (.cells #[.pointer (some ⟨bc, 0, none⟩)] 53)).alloc (.cells #[.int .i64 base] 3)).alloc (.cells #[.int .i64 W, .int .i64 H, .slice (some ⟨a0, o0, none⟩) n0 cv] 26)).alloc (.cells #[.int .i64 WR, .int .i64 HR, .slice ar n1 cr] 26)) = w4 at *
  refine (HCk.out _ HA.out).mono ?_
  rintro e w5 ⟨rfl, hf5⟩
  have HF5 : Hid (Fr (fun _ => False) w4 w5) := hf5
  obtain ⟨b0, b1, b2, b3⟩ := HBX.out _ hf5
  obtain ⟨q0, q1, q2, qf⟩ := cell_of_three b3
  clear hf5 b0 b1 b2 b3
  go_wp2_with fail
  refine (HCr.out _ (HA.out.trans HF5.out (fun _ _ h => h))).mono ?_
  rintro e w6 ⟨rfl, hf6⟩
  have HF6 : Hid (Fr (fun _ => False) w4 w6) := HF5.out.trans hf6 (fun _ _ h => h)
  obtain ⟨b0, b1, b2, b3⟩ := HBX.out _ HF6.out
  have k0 := cell_of_one b0
  have k1 := cell_of_one b1
  clear hf6 b0 b1 b2 b3 q0 q1 q2 qf
  go_wp2_with fail
  refine (HMy.out _).mono ?_
  rintro e w6 ⟨rfl, rfl⟩
  go_wp2_with fail
  have HS6 : Hid (∀ w', Fr (fun _ => False) w6 w' → w'.cell? ⟨w.heap.size, 0, none⟩ = some (.pointer (some ⟨bc, 0, none⟩)) ∧ w'.cell? ⟨w.heap.size + 1, 0, none⟩ = some (.int .i64 base)) := fun w' f => by
    obtain ⟨b0, b1, _, _⟩ := HBX.out _ (HF6.out.trans f (fun _ _ h => h))
    exact ⟨cell_of_one b0, cell_of_one b1⟩
  go_region_held3 (fun w' => w'.cell? ⟨w.heap.size, 0, none⟩ = some (.pointer (some ⟨bc, 0, none⟩)) ∧ w'.cell? ⟨w.heap.size + 1, 0, none⟩ = some (.int .i64 base)) (exact HS6.out _ (by repeat (first | with_reducible exact Fr.refl _ _ | with_reducible refine Fr.drew ?_))) (first | (go_at_call 50; refine (HCt.out _ ((HA.out.trans HF6.out (fun _ _ h => h)).drew)).mono ?_; rintro e u4 ⟨rfl, rfl⟩) | (go_at_call 49; refine (HFt.out _).mono ?_; rintro e u5 ⟨rfl, rfl⟩))
  have HF7 : Hid (Fr (fun _ => False) w4 w6.drew) := HF6.out.drew
  clear k0 k1
  obtain ⟨b0, b1, b2, b3⟩ := HBX.out _ HF7.out
  obtain ⟨q0, q1, q2, qf⟩ := cell_of_three b2
  clear b0 b1 b2 b3
  generalize w6.drew = w7 at *
  go_wp2_with fail
  refine (HCl.out _ (HA.out.trans HF7.out (fun _ _ h => h))).mono ?_
  rintro e w8 ⟨g, cap, rfl, hrow, hf8, hg8⟩
  have HF8 : Hid (Fr (fun _ => False) w4 w8) := HF7.out.trans hf8 (fun _ _ h => h)
  obtain ⟨b0, b1, b2, b3⟩ := HBX.out _ HF8.out
  have hg9 : w.heap.size + 1 + 1 + 1 < g := by
    have := lt_of_block (HBX.out _ HF7.out).2.2.2
    omega
  have HG : Hid (w.heap.size + 1 < g) := by show _ < _; omega
  have fS : Fr (fun k => k = w.heap.size + 1 + 1) w8 (w8.setCell ⟨w.heap.size + 1 + 1, 2, none⟩ (.slice (some ⟨g, 0, none⟩) n0 cap)) := (Fr.refl (fun k => k = w.heap.size + 1 + 1) w8).setCell (p := ⟨w.heap.size + 1 + 1, 2, none⟩) (fun _ => rfl) _
  have HF9 : Hid (Fr (fun _ => False) w (w8.setCell ⟨w.heap.size + 1 + 1, 2, none⟩ (.slice (some ⟨g, 0, none⟩) n0 cap))) := (HA.out.trans HF8.out (fun _ _ h => h)).trans fS (fun i hi e => by omega)
  have HR9 : Hid (RowAt (w8.setCell ⟨w.heap.size + 1 + 1, 2, none⟩ (.slice (some ⟨g, 0, none⟩) n0 cap)) g cap W H P) := hrow.kept fS (by omega)
  have c0 : (w8.setCell ⟨w.heap.size + 1 + 1, 2, none⟩ (.slice (some ⟨g, 0, none⟩) n0 cap)).heap[w.heap.size]? = _ := (fS.block _ (lt_of_block b0) (by omega)).trans b0
  have c1 : (w8.setCell ⟨w.heap.size + 1 + 1, 2, none⟩ (.slice (some ⟨g, 0, none⟩) n0 cap)).heap[w.heap.size + 1]? = _ := (fS.block _ (lt_of_block b1) (by omega)).trans b1
  have c2 : (w8.setCell ⟨w.heap.size + 1 + 1, 2, none⟩ (.slice (some ⟨g, 0, none⟩) n0 cap)).heap[w.heap.size + 1 + 1]? = some (.cells #[.int .i64 W, .int .i64 H, .slice (some ⟨g, 0, none⟩) n0 cap] 26 (0, 0)) := by simp [World.setCell, Array.getElem?_modify, b2]
  have c3 : (w8.setCell ⟨w.heap.size + 1 + 1, 2, none⟩ (.slice (some ⟨g, 0, none⟩) n0 cap)).heap[w.heap.size + 1 + 1 + 1]? = _ := (fS.block _ (lt_of_block b3) (by omega)).trans b3
  have HC9 : Hid _ := And.intro c0 c1
  obtain ⟨y0, y1, y2, yf⟩ := cell_of_three c2
  obtain ⟨z0, z1, z2, zf⟩ := cell_of_three c3
  clear q0 q1 q2 qf
  obtain ⟨q0, q1, q2, qf⟩ := cell_of_three b2
  have hmf : ∀ (fn : Fn) (first cap : Array Value) (w : World), (Instr.makeFunc fn first cap).run Try.prog w = .ok (.func fn first cap) w := fun _ _ _ _ => rfl
  clear hrow hf8 hg8 c0 c1 c2 c3 b0 b1 b2 b3 fS hg9
  go_wp2_with fail
  refine (HTh.out _ g cap HF9.out HR9.out HG.out HC9.out.1 HC9.out.2).mono ?_
  rintro e w10 ⟨rfl, gb', cb', hc10, ho10, hs10⟩
  have H10 : Hid (CoAt w10 bc gc cc gb' cb' RL ∧ Ook RL ∧ CStep bc gc gb gb' w w10) := ⟨hc10, ho10, hs10⟩
  clear hc10 ho10 hs10 y0 y1 y2 yf z0 z1 z2 zf q0 q1 q2 qf
  go_wp2_with fail
  go_ret
  exact ⟨rfl, gb', cb', H10.out.1, H10.out.2.1, H10.out.2.2⟩

end Go.Proofs.Ytmfpoabhmpljgaa

/- Package refine: Get, of what may be. -/
namespace Go.Proofs.Ytmfpoabhmpljgaa
open Go.RowKit

/-- What a decoder gets. -/
def gotW (B : List Nat) (cx : Cxf) (base W H : Nat) (d : De) : De × Pxs := thrW (askD B) cx base W H (d, fun _ _ => false)

set_option maxRecDepth 100000 in
set_option maxHeartbeats 4000000 in
theorem rfget_ok (bd gc cc : Nat) (vb : Value) (B : List Nat) (d : De) (base W H WR HR : Nat) (vR : Value) (PR : Pxs) (dx dy : Int) (w : World) (hd : DeAt w bd gc cc vb B d) (hok : Eok B d) (h1 : 1 ≤ W) (h2 : 1 ≤ H) (h3 : W * H ≤ 1048576) (hR : ∀ w', Fr (fun k => k = bd ∨ k = gc ∨ vb.ownBlock = some k) w w' → Bm w' vR WR HR PR)
    (hdx : -1048576 ≤ dx ∧ dx ≤ 1048576) (hdy : -1048576 ≤ dy ∧ dy ≤ 1048576) (hbase : base + 8192 ≤ d.x.length) (hm : d.made + H * W ≤ 16777216) :
    Calls Try.prog 36 #[.pointer (some ⟨bd, 0, none⟩), .int .i64 base, .int .i64 W, .int .i64 H, .agg #[.int .i64 WR, .int .i64 HR, vR], .int .i64 dx, .int .i64 dy] w fun e w' => ∃ g cap, e = .returned (.tuple #[.agg #[.int .i64 W, .int .i64 H, .slice (some ⟨g, 0, none⟩) (H * stride W) cap], .int .i64 0]) ∧ RowAt w' g cap W H (gotW B (cxR W (refP WR HR PR dx dy)) base W H d).2 ∧ w.heap.size ≤ g ∧ DeAt w' bd gc cc vb B (gotW B (cxR W (refP WR HR PR dx dy)) base W H d).1 ∧ Eok B (gotW B (cxR W (refP WR HR PR dx dy)) base W H d).1 ∧ Fr (fun k => k = bd ∨ k = gc ∨ vb.ownBlock = some k) w w' := by
  obtain ⟨f1, f2, f3⟩ := size_facts h1 h2 h3
  have hlim := hok.lim
  have HN : Hid (∀ w', Calls Try.prog 64 #[.int .i64 W, .int .i64 H] w' fun e w'' => ∃ b g, e = .returned (.tuple #[.pointer (some ⟨b, 0, none⟩), .int .i64 0]) ∧ NewB w' w'' b g (H * stride W) W H (fun _ _ => false)) := fun w' => new_yes W H w' h1 h2 h3
  have HTh : Hid (∀ (w' : World) (g cap : Nat), Fr (fun _ => False) w w' → RowAt w' g cap W H (fun _ _ => false) → w.heap.size + 1 < g → w'.heap[w.heap.size]? = some (.cells #[.pointer (some ⟨bd, 0, none⟩)] 61 (0, 0)) → w'.heap[w.heap.size + 1]? = some (.cells #[.int .i64 base] 3 (0, 0)) →
      Calls Try.prog 52 #[.agg #[.int .i64 W, .int .i64 H, .slice (some ⟨g, 0, none⟩) (H * stride W) cap], .agg #[.int .i64 WR, .int .i64 HR, vR, .int .i64 dx, .int .i64 dy], .func (.func 66) #[] #[.pointer (some ⟨w.heap.size, 0, none⟩), .pointer (some ⟨w.heap.size + 1, 0, none⟩)]] w' fun e w'' => e = .returned (.int .i64 0) ∧ RowAt w'' g cap W H (gotW B (cxR W (refP WR HR PR dx dy)) base W H d).2 ∧ DeAt w'' bd gc cc vb B (gotW B (cxR W (refP WR HR PR dx dy)) base W H d).1 ∧ Eok B (gotW B (cxR W (refP WR HR PR dx dy)) base W H d).1 ∧ Fr (fun k => (k = bd ∨ k = gc ∨ vb.ownBlock = some k) ∨ k = g) w' w'') := fun w' g cap f hr hg e1 e2 => by
    have hde := hd.keptAll f
    have hl := hd.lt
    have hxl := hd.xlt
    have hbl : ∀ k, vb.ownBlock = some k → k < w.heap.size := fun k hk => (hd.bs.lt _ hk).2
    refine (through_d w.heap.size (w.heap.size + 1) base (whoD bd gc cc vb B w.heap.size (w.heap.size + 1) base (by omega)) W H g cap (fun _ _ => false) WR HR vR PR dx dy w' d ⟨hde, hok, e1, e2, ⟨by omega, by omega, fun e => by have := hbl _ e; omega⟩, by omega, by omega, fun e => by have := hbl _ e; omega⟩ (by show _ ≤ 16777216 - d.made; omega) hr (by
      show ¬ (g = bd ∨ g = gc ∨ vb.ownBlock = some g)
      rintro (e | e | e)
      · omega
      · omega
      · have := hbl g e; omega) (by omega) (fun _ _ _ _ => rfl) h1 h2 h3 (fun w2 f2 => hR w2 ((f.mono (fun _ _ h => h.elim)).trans f2 (fun i hi e => by
      rcases e with e | e
      · exact e
      · omega))) hdx hdy).mono ?_
    rintro e w2 ⟨rfl, s', hat, habs, hr2, hf2, how⟩
    have e1 : s' = (gotW B (cxR W (refP WR HR PR dx dy)) base W H d).1 := habs
    subst e1
    exact ⟨rfl, hr2, hat.1, hat.2.1, hf2⟩
  have HBR : Hid (∀ w', Fr (fun _ => False) w w' → Bm w' vR WR HR PR) := fun w' f => hR w' (f.mono (fun _ _ h => h.elim))
  have HMy : Hid (∀ w', Calls Try.prog 48 #[.int .i64 dx, .int .i64 dy] w' fun e w'' => e = .returned (.bool true) ∧ w'' = w') := fun w' => by
    have := mayShift_any dx dy w'
    rwa [show mayS dx dy = true from decide_eq_true ⟨hdx, hdy⟩] at this
  have HFt : Hid (∀ w', Calls Try.prog 49 #[.int .i64 base, .int .i64 (d.x.length : Nat)] w' fun e w'' => e = .returned (.bool true) ∧ w'' = w') := fun w' => fits_ok base _ w' hbase hlim
  have HCt : Hid (∀ w', Fr (fun _ => False) w w' → Calls Try.prog 50 #[.pointer (some ⟨bd, 0, none⟩)] w' fun e w'' => e = .returned (.int .i64 (d.x.length : Nat)) ∧ w'' = w') := fun w' f => by
    obtain ⟨e0, _⟩ := cell_of_seven (hd.keptAll f).blk
    exact contexts_at w' bd gc cc _ e0 hlim
  have HOw : Hid (∀ k, w.heap.size ≤ k → ¬ (k = bd ∨ k = gc ∨ vb.ownBlock = some k)) := fun k hk e => by
    have hl := hd.lt
    have hxl := hd.xlt
    rcases e with e | e | e
    · omega
    · omega
    · have := (hd.bs.lt _ e).2; omega
  obtain ⟨n0, HN0⟩ : ∃ n0, Hid (n0 = H * stride W) := ⟨_, rfl⟩
  rw [← HN0.out] at HN HTh ⊢
  have HPl : Hid (∀ (w' : World) (b g cap : Nat), MapB w' b g cap W H (fun _ _ => false) → Calls Try.prog 65 #[.pointer (some ⟨b, 0, none⟩)] w' fun e w'' => ∃ g2 cap2, e = .returned (.agg #[.int .i64 W, .int .i64 H, .slice (some ⟨g2, 0, none⟩) n0 cap2]) ∧ RowAt w'' g2 cap2 W H (fun _ _ => false) ∧ Fr (fun _ => False) w' w'' ∧ w'.heap.size ≤ g2) := fun w' b g cap h => by
    rw [HN0.out]
    exact plain_any b g cap W H (fun _ _ => false) w' h
  obtain ⟨ar, cr, hvr, -, -⟩ := (hR w (Fr.refl _ _)).seen
  generalize (render WR HR PR).length = n1 at *
  subst hvr
  have HCr : Hid (∀ w', Fr (fun _ => False) w w' → Calls Try.prog 47 #[.agg #[.int .i64 WR, .int .i64 HR, .slice ar n1 cr]] w' fun e w'' => e = .returned (.bool true) ∧ Fr (fun _ => False) w' w'') := fun w' f => (HBR.out w' f).check
  generalize gotW B (cxR W (refP WR HR PR dx dy)) base W H d = GW at *
  clear hd hok h1 h2 h3 hbase hm f3 hR
  generalize d.x.length = X at *
  have hmf : ∀ (fn : Fn) (first cap : Array Value) (w : World), (Instr.makeFunc fn first cap).run Try.prog w = .ok (.func fn first cap) w := fun _ _ _ _ => rfl
  have HA : Hid (Fr (fun _ => False) w ((((w.alloc (.cells #[.pointer (some ⟨bd, 0, none⟩)] 61)).alloc (.cells #[.int .i64 base] 3)).alloc (.cells #[.int .i64 WR, .int .i64 HR, .slice ar n1 cr] 26)).alloc (.cells #[.int .i64 0, .int .i64 0, .slice none 0 0] 26))) := ((((Fr.refl _ _).alloc _).alloc _).alloc _).alloc _
  have HBX : Hid (∀ w', Fr (fun _ => False) ((((w.alloc (.cells #[.pointer (some ⟨bd, 0, none⟩)] 61)).alloc (.cells #[.int .i64 base] 3)).alloc (.cells #[.int .i64 WR, .int .i64 HR, .slice ar n1 cr] 26)).alloc (.cells #[.int .i64 0, .int .i64 0, .slice none 0 0] 26)) w' → w'.heap[w.heap.size]? = some (.cells #[.pointer (some ⟨bd, 0, none⟩)] 61 (0, 0)) ∧ w'.heap[w.heap.size + 1]? = some (.cells #[.int .i64 base] 3 (0, 0)) ∧ w'.heap[w.heap.size + 1 + 1]? = some (.cells #[.int .i64 WR, .int .i64 HR, .slice ar n1 cr] 26 (0, 0)) ∧ w'.heap[w.heap.size + 1 + 1 + 1]? = some (.cells #[.int .i64 0, .int .i64 0, .slice none 0 0] 26 (0, 0))) := fun w' f => by
    have q4 := heap_alloc_new (((w.alloc (.cells #[.pointer (some ⟨bd, 0, none⟩)] 61)).alloc (.cells #[.int .i64 base] 3)).alloc (.cells #[.int .i64 WR, .int .i64 HR, .slice ar n1 cr] 26)) (.cells #[.int .i64 0, .int .i64 0, .slice none 0 0] 26)
    have q3 := heap_alloc_new ((w.alloc (.cells #[.pointer (some ⟨bd, 0, none⟩)] 61)).alloc (.cells #[.int .i64 base] 3)) (.cells #[.int .i64 WR, .int .i64 HR, .slice ar n1 cr] 26)
    have q2 := heap_alloc_new (w.alloc (.cells #[.pointer (some ⟨bd, 0, none⟩)] 61)) (.cells #[.int .i64 base] 3)
    have q1 := heap_alloc_new w (.cells #[.pointer (some ⟨bd, 0, none⟩)] 61)
    simp only [World.size_alloc] at q1 q2 q3 q4
    exact ⟨blkOld f (blkUp (blkUp (blkUp q1 _) _) _), blkOld f (blkUp (blkUp q2 _) _), blkOld f (blkUp q3 _), blkOld f q4⟩
  go_enter Try.func36, Try.ntmps36
  go_wp2_with fail
  generalize ((((w.alloc (.cells #[.pointer (some ⟨bd, 0, none⟩)] 61)).alloc (.cells #[.int .i64 base] 3)).alloc (.cells #[.int .i64 WR, .int .i64 HR, .slice ar n1 cr] 26)).alloc (.cells #[.int .i64 0, .int .i64 0, .slice none 0 0] 26)) = w4 at *
  refine (HCr.out _ HA.out).mono ?_
  rintro e w5 ⟨rfl, hf5⟩
  have HF5 : Hid (Fr (fun _ => False) w4 w5) := hf5
  clear hf5
  go_wp2_with fail
  refine (HN.out _).mono ?_
  rintro e w6 ⟨bm, gm, rfl, hnb⟩
  have HM : Hid (∀ w', Fr (fun _ => False) w6 w' → MapB w' bm gm n0 W H (fun _ _ => false)) := fun w' f => hnb.at_.kept f (fun h => h) (fun h => h)
  have HF6 : Hid (Fr (fun _ => False) w4 w6) := HF5.out.trans hnb.fr (fun _ _ h => h)
  clear hnb
  go_wp2_with fail
  refine (HMy.out _).mono ?_
  rintro e w6 ⟨rfl, rfl⟩
  have HS6 : Hid (∀ w', Fr (fun _ => False) w6 w' → w'.cell? ⟨w.heap.size, 0, none⟩ = some (.pointer (some ⟨bd, 0, none⟩)) ∧ w'.cell? ⟨w.heap.size + 1, 0, none⟩ = some (.int .i64 base)) := fun w' f => by
    obtain ⟨b0, b1, _, _⟩ := HBX.out _ (HF6.out.trans f (fun _ _ h => h))
    exact ⟨cell_of_one b0, cell_of_one b1⟩
  obtain ⟨k0, k1⟩ := HS6.out _ (Fr.refl _ _)
  go_wp2_with fail
  go_region_held3 (fun w' => w'.cell? ⟨w.heap.size, 0, none⟩ = some (.pointer (some ⟨bd, 0, none⟩)) ∧ w'.cell? ⟨w.heap.size + 1, 0, none⟩ = some (.int .i64 base)) (exact HS6.out _ (by repeat (first | with_reducible exact Fr.refl _ _ | with_reducible refine Fr.drew ?_))) (first | (go_at_call 50; refine (HCt.out _ ((HA.out.trans HF6.out (fun _ _ h => h)).drew)).mono ?_; rintro e u4 ⟨rfl, rfl⟩) | (go_at_call 49; refine (HFt.out _).mono ?_; rintro e u5 ⟨rfl, rfl⟩))
  have HF7 : Hid (Fr (fun _ => False) w4 w6.drew) := HF6.out.drew
  have HM7 : Hid (MapB w6.drew bm gm n0 W H (fun _ _ => false)) := HM.out _ (Fr.refl _ _).drew
  clear k0 k1
  generalize w6.drew = w7 at *
  go_wp2_with fail
  refine (HPl.out _ bm gm n0 HM7.out).mono ?_
  rintro e w8 ⟨g, cap, rfl, hrow, hf8, hg8⟩
  have HF8 : Hid (Fr (fun _ => False) w4 (w8.alloc (.cells #[.int .i64 W, .int .i64 H, .slice (some ⟨g, 0, none⟩) n0 cap] 26))) := (HF7.out.trans hf8 (fun _ _ h => h)).alloc _
  have hg9 : w.heap.size + 1 + 1 + 1 < g := by
    have := lt_of_block (HBX.out _ HF7.out).2.2.2
    omega
  have HG : Hid (w.heap.size + 1 < g ∧ w.heap.size + 1 + 1 + 1 < g ∧ g < w8.heap.size ∧ w.heap.size + 1 + 1 + 1 < w8.heap.size) := ⟨by omega, hg9, hrow.lt, by have := hrow.lt; omega⟩
  have HF9 : Hid (Fr (fun _ => False) w (w8.alloc (.cells #[.int .i64 W, .int .i64 H, .slice (some ⟨g, 0, none⟩) n0 cap] 26))) := HA.out.trans HF8.out (fun _ _ h => h)
  have HR9 : Hid (RowAt (w8.alloc (.cells #[.int .i64 W, .int .i64 H, .slice (some ⟨g, 0, none⟩) n0 cap] 26)) g cap W H (fun _ _ => false)) := hrow.kept ((Fr.refl (fun _ => False) w8).alloc _) (fun h => h)
  have HNb : Hid ((w8.alloc (.cells #[.int .i64 W, .int .i64 H, .slice (some ⟨g, 0, none⟩) n0 cap] 26)).heap[w8.heap.size]? = some (.cells #[.int .i64 W, .int .i64 H, .slice (some ⟨g, 0, none⟩) n0 cap] 26 (0, 0))) := heap_alloc_new _ _
  obtain ⟨b0, b1, b2, b3⟩ := HBX.out _ HF8.out
  have HC9 : Hid _ := And.intro b0 b1
  obtain ⟨z0, z1, z2, zf⟩ := cell_of_three b2
  obtain ⟨y0, y1, y2, yf⟩ := cell_of_three HNb.out
  clear hrow hf8 hg8 b0 b1 b2 b3 hg9
  go_wp2_with fail
  generalize hwB : w8.alloc (.cells #[.int .i64 W, .int .i64 H, .slice (some ⟨g, 0, none⟩) n0 cap] 26) = wB at *
  refine (HTh.out _ g cap HF9.out HR9.out HG.out.1 HC9.out.1 HC9.out.2).mono ?_
  rintro e w10 ⟨rfl, hr10, hd10, ho10, hf10⟩
  have hszB : w8.heap.size < wB.heap.size := lt_of_block HNb.out
  have hb8 : w10.heap[w8.heap.size]? = some (.cells #[.int .i64 W, .int .i64 H, .slice (some ⟨g, 0, none⟩) n0 cap] 26 (0, 0)) := by
    rw [hf10.block _ hszB (fun e => by
      have h9 := HG.out
      rcases e with e | e
      · exact HOw.out _ (by omega) e
      · omega)]
    exact HNb.out
  have hb9 : w10.heap[w.heap.size + 1 + 1 + 1]? = some (.cells #[.int .i64 0, .int .i64 0, .slice none 0 0] 26 (0, 0)) := by
    rw [hf10.block _ (lt_of_block (HBX.out _ HF8.out).2.2.2) (fun e => by
      have h9 := HG.out
      rcases e with e | e
      · exact HOw.out _ (by omega) e
      · omega)]
    exact (HBX.out _ HF8.out).2.2.2
  have hset := set3_cells hb9 (.int .i64 W) (.int .i64 H) (.slice (some ⟨g, 0, none⟩) n0 cap)
  have hf9 : Fr (fun k => k = w.heap.size + 1 + 1 + 1) w10 (((w10.setCell ⟨w.heap.size + 1 + 1 + 1, 0, none⟩ (.int .i64 W)).setCell ⟨w.heap.size + 1 + 1 + 1, 1, none⟩ (.int .i64 H)).setCell ⟨w.heap.size + 1 + 1 + 1, 2, none⟩ (.slice (some ⟨g, 0, none⟩) n0 cap)) := (((Fr.refl (fun k => k = w.heap.size + 1 + 1 + 1) w10).setCell (p := ⟨w.heap.size + 1 + 1 + 1, 0, none⟩) (fun _ => rfl) _).setCell (p := ⟨w.heap.size + 1 + 1 + 1, 1, none⟩) (fun _ => rfl) _).setCell (p := ⟨w.heap.size + 1 + 1 + 1, 2, none⟩) (fun _ => rfl) _
  obtain ⟨w9, hw9⟩ : ∃ w9, w9 = ((w10.setCell ⟨w.heap.size + 1 + 1 + 1, 0, none⟩ (.int .i64 W)).setCell ⟨w.heap.size + 1 + 1 + 1, 1, none⟩ (.int .i64 H)).setCell ⟨w.heap.size + 1 + 1 + 1, 2, none⟩ (.slice (some ⟨g, 0, none⟩) n0 cap) := ⟨_, rfl⟩
  rw [← hw9] at hset hf9
  obtain ⟨x0, x1, x2, xf⟩ := cell_of_three hset
  have HW9 := (show Hid (w9 = ((w10.setCell ⟨w.heap.size + 1 + 1 + 1, 0, none⟩ (.int .i64 W)).setCell ⟨w.heap.size + 1 + 1 + 1, 1, none⟩ (.int .i64 H)).setCell ⟨w.heap.size + 1 + 1 + 1, 2, none⟩ (.slice (some ⟨g, 0, none⟩) n0 cap)) from hw9)
  have HE : Hid (RowAt w9 g cap W H GW.2 ∧ w.heap.size ≤ g ∧ DeAt w9 bd gc cc vb B GW.1 ∧ Eok B GW.1 ∧ Fr (fun k => k = bd ∨ k = gc ∨ vb.ownBlock = some k) w w9) := by
    have h9 := HG.out
    have hww := HOw.out (w.heap.size + 1 + 1 + 1) (by omega)
    refine ⟨hr10.kept hf9 (by omega), by omega, hd10.kept hf9 (fun e => hww (Or.inl e.symm)) (fun e => hww (Or.inr (Or.inl e.symm))) (fun k hk e => hww (Or.inr (Or.inr (e ▸ hk)))), ho10, ?_⟩
    refine ((HF9.out.mono (fun _ _ h => h.elim)).trans hf10 (fun i hi e => ?_)).trans hf9 (fun i hi e => by omega)
    rcases e with e | e
    · exact e
    · omega
  obtain ⟨v0, v1, v2, vf⟩ := cell_of_three hb8
  obtain ⟨u0, u1, u2, uf⟩ := cell_of_three hb9
  clear hr10 hd10 ho10 hf10 hset hf9 xf hb8 hb9 hw9 y0 y1 y2 yf z0 z1 z2 zf vf hwB
  go_wp2_with fail
  rw [← HW9.out]
  refine bodyPost_ret (v := .tuple #[.agg #[.int .i64 W, .int .i64 H, .slice (some ⟨g, 0, none⟩) n0 cap], .int .i64 0]) (by simp [results, Try.results36, go_sem, x0, x1, x2]) rfl ?_
  exact ⟨g, cap, rfl, HE.out.1, HE.out.2.1, HE.out.2.2.1, HE.out.2.2.2.1, HE.out.2.2.2.2⟩

end Go.Proofs.Ytmfpoabhmpljgaa
