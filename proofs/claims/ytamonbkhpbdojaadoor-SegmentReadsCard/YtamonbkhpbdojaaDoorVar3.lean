/- 'orBack' and 'Var' of a writer. -/
import Derived.Test.YtamonbkhpbdojaaDoorVar2
namespace Go.Proofs.YtamonbkhpbdojaaDoor
set_option maxRecDepth 100000
open Go.RowKit

theorem allocs3 (w : World) (o1 o2 o3 : Obj) : (((w.alloc o1).alloc o2).alloc o3).heap.size = w.heap.size + 3 ∧ (((w.alloc o1).alloc o2).alloc o3).heap[w.heap.size]? = some o1 ∧
    (((w.alloc o1).alloc o2).alloc o3).heap[w.heap.size + 1]? = some o2 ∧ (((w.alloc o1).alloc o2).alloc o3).heap[w.heap.size + 1 + 1]? = some o3 ∧ Fr (fun _ => False) w (((w.alloc o1).alloc o2).alloc o3) := by
  refine ⟨by simp, ?_, ?_, ?_, (((Fr.refl _ _).alloc _).alloc _).alloc _⟩
  · show ((((w.heap.push o1).push o2).push o3))[w.heap.size]? = _
    simp only [Array.getElem?_push, Array.size_push]
    rw [if_neg (by omega), if_neg (by omega), if_pos trivial]
  · show ((((w.heap.push o1).push o2).push o3))[w.heap.size + 1]? = _
    simp only [Array.getElem?_push, Array.size_push]
    rw [if_neg (by omega), if_pos trivial]
  · show ((((w.heap.push o1).push o2).push o3))[w.heap.size + 1 + 1]? = _
    simp only [Array.getElem?_push, Array.size_push]
    rw [if_pos trivial]

theorem allocs2 (w : World) (o1 o2 : Obj) : ((w.alloc o1).alloc o2).heap.size = w.heap.size + 2 ∧ ((w.alloc o1).alloc o2).heap[w.heap.size]? = some o1 ∧
    ((w.alloc o1).alloc o2).heap[w.heap.size + 1]? = some o2 ∧ Fr (fun _ => False) w ((w.alloc o1).alloc o2) := by
  refine ⟨by simp, ?_, ?_, ((Fr.refl _ _).alloc _).alloc _⟩
  · show (((w.heap.push o1).push o2))[w.heap.size]? = _
    simp only [Array.getElem?_push, Array.size_push]
    rw [if_neg (by omega), if_pos trivial]
  · show (((w.heap.push o1).push o2))[w.heap.size + 1]? = _
    simp only [Array.getElem?_push, Array.size_push]
    rw [if_pos trivial]

theorem Fr.cell {S : Nat → Prop} {w w' : World} (f : Fr S w w') {b j : Nat} {x : Value} (h : w.cell? ⟨b, j, none⟩ = some x) (hs : ¬ S b) : w'.cell? ⟨b, j, none⟩ = some x := by
  rw [World.cell?_of_block (w := w) (a := ⟨b, j, none⟩) (f.block b (World.block_lt_of_cell? w _ h) hs)]; exact h

theorem Fr.one (w : World) (b j : Nat) (u : Value) : Fr (fun k => k = b) w (w.setCell ⟨b, j, none⟩ u) :=
  ⟨rfl, rfl, rfl, by simp [World.setCell], fun k _ hn => Below.heap_setCell _ _ _ _ hn⟩

/-- A writer that was touched, seen from a world of which the later one grew. -/
theorem WStep.from {bw : Nat} {v v' : Value} {w0 w w' : World} (f : Fr (fun _ => False) w0 w) (h : WStep bw v v' w w') : WStep bw v v' w0 w' := by
  have hsz := f.size
  refine ⟨f.mono (fun _ _ hh => hh.elim) |>.trans h.fr (fun _ _ hh => hh), ?_⟩
  rcases h.row with r | r
  · exact Or.inl r
  · exact Or.inr (fun k hk => by have := r k hk; omega)

theorem WStep.later {bw : Nat} {v v' : Value} {w w1 w2 : World} (h : WStep bw v v' w w1) {S : Nat → Prop} (f : Fr S w1 w2) (hs : ∀ k, k < w.heap.size → S k → k = bw ∨ v.ownBlock = some k) : WStep bw v v' w w2 :=
  ⟨h.fr.trans f hs, h.row⟩

set_option maxRecDepth 100000 in
set_option maxHeartbeats 1000000 in
theorem orBack_fits (bw b0 b1 : Nat) (v : Value) (most : Nat) (bs : List Bool) (n : Nat) (w : World) (h : WAt w bw v most bs) (hn : n < 18446744073709551616) (hf : bs.length + (varBits n).length ≤ 8 * most)
    (h0 : w.cell? ⟨b0, 0, none⟩ = some (.pointer (some ⟨bw, 0, none⟩))) (h1 : w.cell? ⟨b1, 0, none⟩ = some (.int .u64 n)) :
    Calls Tryd.prog 49 #[.pointer (some ⟨bw, 0, none⟩), .func (.func 50) #[] #[.pointer (some ⟨b0, 0, none⟩), .pointer (some ⟨b1, 0, none⟩)]] w fun e w' => e = .returned (.int .i64 0) ∧ ∃ v', WAt w' bw v' most (bs ++ varBits n) ∧ WStep bw v v' w w' := by
  have HN : Hid (n < 18446744073709551616) := hn
  have HF : Hid (bs.length + (varBits n).length ≤ 8 * most) := hf
  clear hn hf
  have hmf : ∀ (fn : Fn) (first cap : Array Value) (w : World), (Instr.makeFunc fn first cap).run Tryd.prog w = .ok (.func fn first cap) w := fun _ _ _ _ => rfl
  obtain ⟨c0, c1, c2, cf⟩ := cell_of_three h.blk
  have hlt := h.lt
  have hrl := h.rowlt
  have HW : Hid (WAt w bw v most bs) := h
  have H0 : Hid (w.cell? ⟨b0, 0, none⟩ = some (.pointer (some ⟨bw, 0, none⟩))) := h0
  have H1 : Hid (w.cell? ⟨b1, 0, none⟩ = some (.int .u64 n)) := h1
  clear h h0 h1
  go_enter_defers Tryd.func49, Tryd.ntmps49
  go_wp2_with fail
  obtain ⟨a1, a2, a3, a4, a5⟩ := allocs3 w (.cells #[.pointer (some ⟨bw, 0, none⟩)] 77) (.cells #[.int .i64 0] 29) (.cells #[.int .i64 bs.length] 3)
  refine (var1_fits bw b0 b1 v most bs n _ (HW.out.kept a5 (fun hh => hh) (fun _ _ hh => hh)) HN.out HF.out (a5.cell H0.out (fun hh => hh)) (a5.cell H1.out (fun hh => hh))).mono ?_
  rintro e w1 ⟨rfl, v', hat, hst⟩
  have hsz := hst.fr.size
  rw [a1] at hsz
  have ho : w1.heap[w.heap.size + 1]? = some (.cells #[.int .i64 0] 29 (0, 0)) := by
    rw [hst.fr.block (w.heap.size + 1) (by omega) (by rintro (e | e); omega; have := hrl _ e; omega)]; exact a3
  have hne : v'.ownBlock ≠ some (w.heap.size + 1) := by
    intro e
    rcases hst.row with r | r
    · rw [r] at e; have := hrl _ e; omega
    · have := r _ e; omega
  have he0 := cell_of_one ho
  have he1 := free_of_one ho
  have HA : Hid (WAt w1 bw v' most (bs ++ varBits n)) := hat
  have HS : Hid (WStep bw v v' w w1) := hst.from a5
  have hr : (w1.setCell ⟨w.heap.size + 1, 0, none⟩ (.int .i64 0)).cell? ⟨w.heap.size + 1, 0, none⟩ = some (.int .i64 0) := cell_of_one (one_setCell ho)
  have HR : Hid ((w1.setCell ⟨w.heap.size + 1, 0, none⟩ (.int .i64 0)).cell? ⟨w.heap.size + 1, 0, none⟩ = some (.int .i64 0)) := hr
  have f2 : Fr (fun k => k = w.heap.size + 1) w1 (w1.setCell ⟨w.heap.size + 1, 0, none⟩ (.int .i64 0)) := Fr.one _ _ _ _
  have HA2 : Hid (WAt (w1.setCell ⟨w.heap.size + 1, 0, none⟩ (.int .i64 0)) bw v' most (bs ++ varBits n)) := HA.out.kept f2 (by omega) (fun k hk e => hne (by rw [hk, e]))
  have HS2 : Hid (WStep bw v v' w (w1.setCell ⟨w.heap.size + 1, 0, none⟩ (.int .i64 0))) := HS.out.later f2 (fun k hk e => by omega)
  clear hat hst a1 a2 a3 a4 a5 c0 c1 c2 cf ho hr f2
  go_wp2_with fail
  refine leaves_cons (f := 61) (args := #[.pointer (some ⟨w.heap.size + 1, 0, none⟩), .pointer (some ⟨w.heap.size, 0, none⟩), .pointer (some ⟨w.heap.size + 1 + 1, 0, none⟩)]) (by simp) (by simp [go_sem]) ?_
  refine (back1_ok (w.heap.size + 1) w.heap.size (w.heap.size + 1 + 1) .returning _ HR.out).mono ?_
  rintro e u' w2 ⟨rfl, rfl, rfl⟩
  have hr := HR.out
  refine ⟨.int .i64 0, ?_, rfl, v', HA2.out, HS2.out⟩
  simp [results, Tryd.results49, go_sem, hr]

set_option maxRecDepth 100000 in
set_option maxHeartbeats 1000000 in
theorem orBack_full (bw b0 b1 : Nat) (v : Value) (most : Nat) (bs : List Bool) (n : Nat) (w : World) (h : WAt w bw v most bs) (hn : n < 18446744073709551616) (hf : 8 * most < bs.length + (varBits n).length)
    (h0 : w.cell? ⟨b0, 0, none⟩ = some (.pointer (some ⟨bw, 0, none⟩))) (h1 : w.cell? ⟨b1, 0, none⟩ = some (.int .u64 n)) :
    Calls Tryd.prog 49 #[.pointer (some ⟨bw, 0, none⟩), .func (.func 50) #[] #[.pointer (some ⟨b0, 0, none⟩), .pointer (some ⟨b1, 0, none⟩)]] w fun e w' => e = .returned (.int .i64 13) ∧ ∃ v', WAt w' bw v' most bs ∧ WStep bw v v' w w' := by
  have HN : Hid (n < 18446744073709551616) := hn
  have HF : Hid (8 * most < bs.length + (varBits n).length) := hf
  clear hn hf
  have hmf : ∀ (fn : Fn) (first cap : Array Value) (w : World), (Instr.makeFunc fn first cap).run Tryd.prog w = .ok (.func fn first cap) w := fun _ _ _ _ => rfl
  obtain ⟨c0, c1, c2, cf⟩ := cell_of_three h.blk
  have hlt := h.lt
  have hrl := h.rowlt
  have HW : Hid (WAt w bw v most bs) := h
  have H0 : Hid (w.cell? ⟨b0, 0, none⟩ = some (.pointer (some ⟨bw, 0, none⟩))) := h0
  have H1 : Hid (w.cell? ⟨b1, 0, none⟩ = some (.int .u64 n)) := h1
  clear h h0 h1
  go_enter_defers Tryd.func49, Tryd.ntmps49
  go_wp2_with fail
  obtain ⟨a1, a2, a3, a4, a5⟩ := allocs3 w (.cells #[.pointer (some ⟨bw, 0, none⟩)] 77) (.cells #[.int .i64 0] 29) (.cells #[.int .i64 bs.length] 3)
  refine (var1_full bw b0 b1 v most bs n _ (HW.out.kept a5 (fun hh => hh) (fun _ _ hh => hh)) HN.out HF.out (a5.cell H0.out (fun hh => hh)) (a5.cell H1.out (fun hh => hh))).mono ?_
  rintro e w1 ⟨rfl, v', ext, hat, hst⟩
  have hsz := hst.fr.size
  rw [a1] at hsz
  have hkeep : ∀ k, w.heap.size ≤ k → k < w.heap.size + 3 → w1.heap[k]? = (((w.alloc (.cells #[.pointer (some ⟨bw, 0, none⟩)] 77)).alloc (.cells #[.int .i64 0] 29)).alloc (.cells #[.int .i64 bs.length] 3)).heap[k]? := fun k hk1 hk2 =>
    hst.fr.block k (by omega) (by rintro (e | e); omega; have := hrl _ e; omega)
  have ho := (hkeep (w.heap.size + 1) (by omega) (by omega)).trans a3
  have hop := (hkeep w.heap.size (by omega) (by omega)).trans a2
  have hos := (hkeep (w.heap.size + 1 + 1) (by omega) (by omega)).trans a4
  have hne : ∀ k, w.heap.size ≤ k → k < w.heap.size + 3 → v'.ownBlock ≠ some k := by
    intro k hk1 hk2 e
    rcases hst.row with r | r
    · rw [r] at e; have := hrl _ e; omega
    · have := r _ e; omega
  have he0 := cell_of_one ho
  have he1 := free_of_one ho
  have HA : Hid (WAt w1 bw v' most (bs ++ ext)) := hat
  have HS : Hid (WStep bw v v' w w1) := hst.from a5
  have f2 : Fr (fun k => k = w.heap.size + 1) w1 (w1.setCell ⟨w.heap.size + 1, 0, none⟩ (.int .i64 13)) := Fr.one _ _ _ _
  have HR : Hid ((w1.setCell ⟨w.heap.size + 1, 0, none⟩ (.int .i64 13)).cell? ⟨w.heap.size + 1, 0, none⟩ = some (.int .i64 13)) := cell_of_one (one_setCell ho)
  have HP : Hid ((w1.setCell ⟨w.heap.size + 1, 0, none⟩ (.int .i64 13)).cell? ⟨w.heap.size, 0, none⟩ = some (.pointer (some ⟨bw, 0, none⟩))) := f2.cell (cell_of_one hop) (by omega)
  have HZ : Hid ((w1.setCell ⟨w.heap.size + 1, 0, none⟩ (.int .i64 13)).cell? ⟨w.heap.size + 1 + 1, 0, none⟩ = some (.int .i64 bs.length)) := f2.cell (cell_of_one hos) (by omega)
  have HA2 : Hid (WAt (w1.setCell ⟨w.heap.size + 1, 0, none⟩ (.int .i64 13)) bw v' most (bs ++ ext)) := HA.out.kept f2 (by omega) (fun k hk e => hne (w.heap.size + 1) (by omega) (by omega) (by rw [hk, e]))
  have HS2 : Hid (WStep bw v v' w (w1.setCell ⟨w.heap.size + 1, 0, none⟩ (.int .i64 13))) := HS.out.later f2 (fun k hk e => by omega)
  have HNE : Hid (v'.ownBlock ≠ some (w.heap.size + 1)) := hne (w.heap.size + 1) (by omega) (by omega)
  clear hat hst a1 a2 a3 a4 a5 c0 c1 c2 cf ho hop hos hkeep hne f2
  go_wp2_with fail
  refine leaves_cons (f := 61) (args := #[.pointer (some ⟨w.heap.size + 1, 0, none⟩), .pointer (some ⟨w.heap.size, 0, none⟩), .pointer (some ⟨w.heap.size + 1 + 1, 0, none⟩)]) (by simp) (by simp [go_sem]) ?_
  refine (back1_cut (w.heap.size + 1) w.heap.size (w.heap.size + 1 + 1) bw v' most bs ext .returning _ HA2.out HR.out HP.out HZ.out).mono ?_
  rintro e u' w2 ⟨rfl, rfl, v2, hat, hst⟩
  have hr : w2.cell? ⟨w.heap.size + 1, 0, none⟩ = some (.int .i64 13) := hst.fr.cell HR.out (by rintro (e | e); omega; exact HNE.out e)
  refine ⟨.int .i64 13, ?_, rfl, v2, hat, HS2.out.trans hst⟩
  simp [results, Tryd.results49, go_sem, hr]

end Go.Proofs.YtamonbkhpbdojaaDoor
