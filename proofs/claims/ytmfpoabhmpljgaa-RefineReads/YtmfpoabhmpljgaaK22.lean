/- Package refine: through, by a decoder. -/
import Derived.Test.YtmfpoabhmpljgaaK20
import Derived.Defers
import Derived.Recover
import Derived.Laws.Pointers
namespace Go.Proofs.Ytmfpoabhmpljgaa
open Go.RowKit

theorem caught_d (p : Addr) (w : World) :
    CallsD Try.prog 75 #[.pointer (some p)] .returning w fun e u' w' => e = .returned (.tuple #[]) ∧ u' = .returning ∧ w' = w := by
  refine callsD_of_wpS Try.func75 rfl fun c₀ cs hu => ?_
  apply wpS_seq
  apply wpS_region
  simp [wpOpsS, go_sem, recoverD, hu, Try.ntmps75, Exit.thenS]
  apply wpS_seq
  apply wpS_region
  simp [wpOpsS, go_sem, Array.replicate, Exit.thenS]
  refine wpS_cond (t := false) (by simp [Act.eval]) ?_
  simp only [Bool.false_eq_true, if_false]
  refine wpS_of_wp (wp_skip ?_)
  cases c₀
  simp_all [bodyPostS, results, Try.results75]

set_option maxRecDepth 100000 in
set_option maxHeartbeats 4000000 in
theorem through_d (pc pb base : Nat) (D : Who 66 pc pb base) (W H g cap : Nat) (P : Pxs) (WR HR : Nat) (vR : Value) (PR : Pxs) (dx dy : Int) (w : World) (s : D.S)
    (hD : D.At w s) (hl : H * W ≤ D.left (D.abs s)) (hr : RowAt w g cap W H P) (hg : ¬ D.own s g) (hpg : pc ≠ g ∧ pb ≠ g) (hmay : ∀ x y, x < W → y < H → D.may (P x y).toNat) (h1 : 1 ≤ W) (h2 : 1 ≤ H) (h3 : W * H ≤ 1048576)
    (hR : ∀ w', Fr (fun k => D.own s k ∨ k = g) w w' → Bm w' vR WR HR PR) (hdx : -1048576 ≤ dx ∧ dx ≤ 1048576) (hdy : -1048576 ≤ dy ∧ dy ≤ 1048576) :
    Calls Try.prog 52 #[.agg #[.int .i64 W, .int .i64 H, .slice (some ⟨g, 0, none⟩) (H * stride W) cap], .agg #[.int .i64 WR, .int .i64 HR, vR, .int .i64 dx, .int .i64 dy], .func (.func 66) #[] #[.pointer (some ⟨pc, 0, none⟩), .pointer (some ⟨pb, 0, none⟩)]] w fun e w' => e = .returned (.int .i64 0) ∧ ∃ s', D.At w' s' ∧ D.abs s' = (thrW D.ask (cxR W (refP WR HR PR dx dy)) base W H (D.abs s, P)).1 ∧
      RowAt w' g cap W H (thrW D.ask (cxR W (refP WR HR PR dx dy)) base W H (D.abs s, P)).2 ∧ Fr (fun k => D.own s k ∨ k = g) w w' ∧ (∀ k, D.own s' k → D.own s k ∨ w.heap.size ≤ k) := by
  obtain ⟨f1, f2, f3⟩ := size_facts h1 h2 h3
  have hS : 0 < stride W := stride_pos (by omega)
  have hS2 : stride W ≤ 1048576 := by unfold stride; omega
  have hmf : ∀ (fn : Fn) (first cap : Array Value) (w : World), (Instr.makeFunc fn first cap).run Try.prog w = .ok (.func fn first cap) w := fun _ _ _ _ => rfl
  obtain ⟨hcap, hcm⟩ : H * stride W ≤ cap ∧ cap ≤ maxLen := by obtain ⟨_, _, a, b, _, _⟩ := hr.cur; exact ⟨a, b⟩
  have hRb := hR w (Fr.refl _ _)
  have hWR := (size_facts hRb.h1 hRb.h2 hRb.h3).1
  have hWR1 := hRb.h1
  obtain ⟨ar, cr, hvr, -, -⟩ := hRb.seen
  generalize (render WR HR PR).length = nr at *
  subst hvr
  have HK : Hid (D.At w s ∧ H * W ≤ D.left (D.abs s) ∧ RowAt w g cap W H P ∧ ¬ D.own s g ∧ (∀ x y, x < W → y < H → D.may (P x y).toNat) ∧ W * H ≤ 1048576 ∧ pc ≠ g ∧ pb ≠ g) := ⟨hD, hl, hr, hg, hmay, h3, hpg.1, hpg.2⟩
  have HRf : Hid (∀ w', Fr (fun k => D.own s k ∨ k = g) w w' → Bm w' (.slice ar nr cr) WR HR PR) := hR
  have HX : Hid ((-1048576 ≤ dx ∧ dx ≤ 1048576) ∧ (-1048576 ≤ dy ∧ dy ≤ 1048576) ∧ 1 ≤ WR ∧ WR ≤ 1048576) := ⟨hdx, hdy, hWR1, hWR⟩
  have hgl := hr.lt
  clear hD hl hr hg hmay h3 hpg hR hRb hWR hWR1 hdx hdy
  have HF3 : Hid (Fr (fun _ => False) w (((w.alloc (.cells #[.int .i64 W, .int .i64 H, .slice (some ⟨g, 0, none⟩) (H * stride W) cap] 26)).alloc (.cells #[.int .i64 WR, .int .i64 HR, .slice ar nr cr, .int .i64 dx, .int .i64 dy] 97)).alloc (.cells #[.int .i64 0] 31))) := (((Fr.refl _ _).alloc _).alloc _).alloc _
  have HB3 : Hid (∀ w', Fr (fun k => D.own s k ∨ k = g) (((w.alloc (.cells #[.int .i64 W, .int .i64 H, .slice (some ⟨g, 0, none⟩) (H * stride W) cap] 26)).alloc (.cells #[.int .i64 WR, .int .i64 HR, .slice ar nr cr, .int .i64 dx, .int .i64 dy] 97)).alloc (.cells #[.int .i64 0] 31)) w' → w'.heap[w.heap.size]? = some (.cells #[.int .i64 W, .int .i64 H, .slice (some ⟨g, 0, none⟩) (H * stride W) cap] 26 (0, 0)) ∧ w'.heap[w.heap.size + 1]? = some (.cells #[.int .i64 WR, .int .i64 HR, .slice ar nr cr, .int .i64 dx, .int .i64 dy] 97 (0, 0)) ∧ w'.heap[w.heap.size + 1 + 1]? = some (.cells #[.int .i64 0] 31 (0, 0))) := fun w' f => by
    have hno : ∀ k, w.heap.size ≤ k → ¬ (D.own s k ∨ k = g) := fun k hk e => by
      rcases e with e | e
      · have := D.lt HK.out.1 e; omega
      · omega
    have q3 := heap_alloc_new ((w.alloc (.cells #[.int .i64 W, .int .i64 H, .slice (some ⟨g, 0, none⟩) (H * stride W) cap] 26)).alloc (.cells #[.int .i64 WR, .int .i64 HR, .slice ar nr cr, .int .i64 dx, .int .i64 dy] 97)) (.cells #[.int .i64 0] 31)
    have q2 := heap_alloc_new (w.alloc (.cells #[.int .i64 W, .int .i64 H, .slice (some ⟨g, 0, none⟩) (H * stride W) cap] 26)) (.cells #[.int .i64 WR, .int .i64 HR, .slice ar nr cr, .int .i64 dx, .int .i64 dy] 97)
    have q1 := heap_alloc_new w (.cells #[.int .i64 W, .int .i64 H, .slice (some ⟨g, 0, none⟩) (H * stride W) cap] 26)
    simp only [World.size_alloc] at q1 q2 q3
    refine ⟨?_, ?_, ?_⟩
    · rw [f.block _ (by simp only [World.size_alloc]; omega) (hno _ (by omega))]; exact blkUp (blkUp q1 _) _
    · rw [f.block _ (by simp only [World.size_alloc]; omega) (hno _ (by omega))]; exact blkUp q2 _
    · rw [f.block _ (by simp only [World.size_alloc]; omega) (hno _ (by omega))]; exact q3
  obtain ⟨cx, HCX⟩ : ∃ cx, Hid (cx = cxR W (refP WR HR PR dx dy)) := ⟨_, rfl⟩
  rw [← HCX.out]
  have HT0 : Hid (ThAt D cx W H g cap P s (((w.alloc (.cells #[.int .i64 W, .int .i64 H, .slice (some ⟨g, 0, none⟩) (H * stride W) cap] 26)).alloc (.cells #[.int .i64 WR, .int .i64 HR, .slice ar nr cr, .int .i64 dx, .int .i64 dy] 97)).alloc (.cells #[.int .i64 0] 31)) 0 s (((w.alloc (.cells #[.int .i64 W, .int .i64 H, .slice (some ⟨g, 0, none⟩) (H * stride W) cap] 26)).alloc (.cells #[.int .i64 WR, .int .i64 HR, .slice ar nr cr, .int .i64 dx, .int .i64 dy] 97)).alloc (.cells #[.int .i64 0] 31))) := by
    refine ⟨D.kept HK.out.1 HF3.out (fun _ _ h => h) (fun h => h) (fun h => h), rfl, HK.out.2.2.1.kept HF3.out (fun h => h), Fr.refl _ _, fun k hk => Or.inl hk, by rw [Nat.sub_zero]; exact HK.out.2.1⟩
  generalize hNN : H * stride W = N at *
  have HNN : Hid (N = H * stride W) := hNN.symm
  clear hNN
  go_enter_defers Try.func52, Try.ntmps52
  go_wp2_with fail
  generalize (((w.alloc (.cells #[.int .i64 W, .int .i64 H, .slice (some ⟨g, 0, none⟩) N cap] 26)).alloc (.cells #[.int .i64 WR, .int .i64 HR, .slice ar nr cr, .int .i64 dx, .int .i64 dy] 97)).alloc (.cells #[.int .i64 0] 31)) = w5 at *
  have HF5 := HF3
  have HB5 := HB3
  obtain ⟨b0, b1, b3⟩ := HB5.out w5 (Fr.refl _ _)
  have hg5 : g < w5.heap.size := by have := HF5.out.size; omega
  obtain ⟨q0, q1, q2, qf⟩ := cell_of_three b0
  clear b0 b1 b3 HF3 HB3
  go_wp2_with fail
  clear q0 q1 q2 qf
  go_loopw [7, 8, 9, 10, 11, 12, 16] (fun _ _ _ _ _ _ j wr => ∃ (n : Nat) (sN : D.S), n ≤ H ∧ j = .int .i64 n ∧ ThAt D cx W H g cap P s w5 n sN wr) (fun _ _ _ _ _ _ j _ => H - (intOf j).toNat)
  case atStart => exact ⟨0, s, Nat.zero_le _, rfl, HT0.out⟩
  case round =>
    obtain ⟨n, sN, hn, rfl, hth⟩ := hrel
    have HTh := (show Hid (ThAt D cx W H g cap P s w5 n sN wr) from hth)
    clear hth
    by_cases hlt : n < H
    · have hth := HTh.out
      obtain ⟨Pn, HPn⟩ : ∃ Pn, Hid (Pn = (thrW D.ask cx base W n (D.abs s, P)).2) := ⟨_, rfl⟩
      have hrow := hth.row
      rw [← HPn.out] at hrow
      have hmayn : ∀ x, x < W → D.may (Pn x n).toNat := fun x hx => by
        rw [HPn.out, thrW_other _ _ _ _ _ _ _ _ (Or.inl (Nat.le_refl _))]; exact HK.out.2.2.2.2.1 x n hx hlt
      have hog : ¬ D.own sN g := fun e => by
        rcases hth.own g e with a | a
        · exact HK.out.2.2.2.1 a
        · omega
      have hleft : W ≤ D.left (D.abs sN) := by
        have h5 := hth.left
        have : 1 * W ≤ (H - n) * W := Nat.mul_le_mul_right _ (by omega)
        omega
      have hbm := hrow.bm h1 h2 HK.out.2.2.2.2.2.1
      rw [← HNN.out] at hbm
      have HRw : Hid (∀ w', Fr (fun k => D.own sN k ∨ k = g) wr w' → Bm w' (.slice ar nr cr) WR HR PR) := fun w' f => HRf.out w' ((HF5.out.mono (fun _ _ h => h.elim)).trans (hth.frT f) (fun _ _ h => h))
      have HSX : Hid (∀ w', Fr (fun k => D.own sN k ∨ k = g) wr w' → w'.cell? ⟨w.heap.size, 0, none⟩ = some (.int .i64 W) ∧ w'.cell? ⟨w.heap.size, 1, none⟩ = some (.int .i64 H) ∧ w'.cell? ⟨w.heap.size, 2, none⟩ = some (.slice (some ⟨g, 0, none⟩) N cap) ∧ w'.cell? ⟨w.heap.size + 1, 0, none⟩ = some (.int .i64 WR) ∧ w'.cell? ⟨w.heap.size + 1, 1, none⟩ = some (.int .i64 HR) ∧ w'.cell? ⟨w.heap.size + 1, 2, none⟩ = some (.slice ar nr cr) ∧ w'.cell? ⟨w.heap.size + 1, 3, none⟩ = some (.int .i64 dx) ∧ w'.cell? ⟨w.heap.size + 1, 4, none⟩ = some (.int .i64 dy)) := fun w' f => by
        obtain ⟨b0, b1, b3⟩ := HB5.out w' (hth.frT f)
        obtain ⟨p0, p1, p2, p3, p4, _⟩ := cell_of_five b1
        obtain ⟨q0, q1, q2, _⟩ := cell_of_three b0
        exact ⟨q0, q1, q2, p0, p1, p2, p3, p4⟩
      have HMk : Hid (∀ w', Fr (fun _ => False) wr w' → Calls Try.prog 76 #[.agg #[.int .i64 W, .int .i64 H, .slice (some ⟨g, 0, none⟩) N cap], .int .i64 (n : Int), .int .i64 0] w' fun e w'' => ∃ bs bb bw, e = .returned (.func (.func 92) #[] #[.pointer (some ⟨bs, 0, none⟩), .pointer (some ⟨bb, 0, none⟩), .pointer (some ⟨bw, 0, none⟩)]) ∧ RowCl w'' w'.heap.size (.func (.func 92) #[] #[.pointer (some ⟨bs, 0, none⟩), .pointer (some ⟨bb, 0, none⟩), .pointer (some ⟨bw, 0, none⟩)]) W H (.slice (some ⟨g, 0, none⟩) N cap) (n : Int) 0 ∧ Fr (fun _ => False) w' w'') := fun w' f => by
        refine (mkrow_any W H (.slice (some ⟨g, 0, none⟩) N cap) Pn (n : Int) 0 w' (hbm.kept f) (by omega)).mono ?_
        rintro e w2 ⟨fv, rfl, hc, hf⟩
        have hc0 := hc
        rcases hc with ⟨_, hno⟩ | ⟨bs, bb, bw, u, rfl, _⟩
        · exact absurd ⟨by omega, by omega⟩ hno
        · exact ⟨bs, bb, bw, rfl, hc0, hf⟩
      have HTl : Hid (∀ w', Fr (fun _ => False) wr w' → Calls Try.prog 77 #[.agg #[.int .i64 W, .int .i64 H, .slice (some ⟨g, 0, none⟩) N cap], .agg #[.int .i64 WR, .int .i64 HR, .slice ar nr cr, .int .i64 dx, .int .i64 dy], .int .i64 n] w' fun e w'' => ∃ ba bo bt bm bl, e = .returned (.func (.func 93) #[] #[.pointer (some ⟨ba, 0, none⟩), .pointer (some ⟨bo, 0, none⟩), .pointer (some ⟨bt, 0, none⟩), .pointer (some ⟨bm, 0, none⟩), .pointer (some ⟨bl, 0, none⟩)]) ∧ ToldCl w'' w'.heap.size ba bo bt bm bl W H (.slice (some ⟨g, 0, none⟩) N cap) WR HR (.slice ar nr cr) dx dy n ∧ Fr (fun _ => False) w' w'') := fun w' f => told_any W H _ Pn WR HR _ PR dx dy n w' (hbm.kept f) (HRw.out w' (f.mono (fun _ _ h => h.elim))) hlt HX.out.1 HX.out.2.1
      have HWo : Hid (∀ w', Calls Try.prog 78 #[.agg #[.int .i64 W, .int .i64 H, .slice (some ⟨g, 0, none⟩) N cap], .int .i64 n] w' fun e w'' => e = .returned (.slice (some ⟨g, n * stride W, none⟩) (stride W) (cap - n * stride W)) ∧ Fr (fun _ => False) w' w'') := fun w' => by
        have := wordsOf_any W H n g 0 cap w' h1 h2 HK.out.2.2.2.2.2.1 hlt (by rw [← HNN.out]; exact hcap) hcm
        rw [Nat.zero_add, ← HNN.out] at this
        exact this
      have HAt : Hid (D.At wr sN ∧ W ≤ D.left (D.abs sN) ∧ RowAt wr g cap W H Pn ∧ ¬ D.own sN g ∧ (∀ x, x < W → D.may (Pn x n).toNat)) := ⟨hth.at_, hleft, hrow, hog, hmayn⟩
      obtain ⟨c0, c1, c2, c3, c4, c5, c6, c7⟩ := HSX.out wr (Fr.refl _ _)
      clear hth hrow hmayn hog hleft hbm
      go_wp2_with fail
      clear c0 c1 c2 c3 c4 c5 c6 c7
      go_region_held3 (fun w' => w'.cell? ⟨w.heap.size, 0, none⟩ = some (.int .i64 W) ∧ w'.cell? ⟨w.heap.size, 1, none⟩ = some (.int .i64 H) ∧ w'.cell? ⟨w.heap.size, 2, none⟩ = some (.slice (some ⟨g, 0, none⟩) N cap) ∧ w'.cell? ⟨w.heap.size + 1, 0, none⟩ = some (.int .i64 WR) ∧ w'.cell? ⟨w.heap.size + 1, 1, none⟩ = some (.int .i64 HR) ∧ w'.cell? ⟨w.heap.size + 1, 2, none⟩ = some (.slice ar nr cr) ∧ w'.cell? ⟨w.heap.size + 1, 3, none⟩ = some (.int .i64 dx) ∧ w'.cell? ⟨w.heap.size + 1, 4, none⟩ = some (.int .i64 dy)) (exact HSX.out _ (by repeat (first | with_reducible exact Fr.refl _ _ | with_reducible refine Fr.drew ?_ | with_reducible refine Fr.trans ?_ hf7 (fun _ _ hh => hh.elim) | with_reducible refine Fr.trans ?_ hf6 (fun _ _ hh => hh.elim)))) (first | (go_at_call 76; refine (HMk.out _ (by repeat (first | with_reducible exact Fr.refl _ _ | with_reducible refine Fr.drew ?_ | with_reducible refine Fr.trans ?_ hf7 (fun _ _ hh => hh) | with_reducible refine Fr.trans ?_ hf6 (fun _ _ hh => hh)))).mono ?_; rintro e u6 ⟨bs, bb, bw, rfl, hc6, hf6⟩) | (go_at_call 77; refine (HTl.out _ (by repeat (first | with_reducible exact Fr.refl _ _ | with_reducible refine Fr.drew ?_ | with_reducible refine Fr.trans ?_ hf7 (fun _ _ hh => hh) | with_reducible refine Fr.trans ?_ hf6 (fun _ _ hh => hh)))).mono ?_; rintro e u7 ⟨ba, bo, bt, bm, bl, rfl, hc7, hf7⟩))
      have HF7 : Hid (Fr (fun _ => False) wr u7) := ((Fr.refl _ _).drew.trans hf6 (fun _ _ h => h)).trans hf7 (fun _ _ h => h)
      have HC7 : Hid (RowCl u7 wr.heap.size (.func (.func 92) #[] #[.pointer (some ⟨bs, 0, none⟩), .pointer (some ⟨bb, 0, none⟩), .pointer (some ⟨bw, 0, none⟩)]) W H (.slice (some ⟨g, 0, none⟩) N cap) (n : Int) 0 ∧ ToldCl u7 wr.heap.size ba bo bt bm bl W H (.slice (some ⟨g, 0, none⟩) N cap) WR HR (.slice ar nr cr) dx dy n) := ⟨hc6.kept hf7 (fun _ _ _ h => h), hc7.less hf6.size⟩
      obtain ⟨c0, c1, c2, -, -, -, -, -⟩ := HSX.out u7 (HF7.out.mono (fun _ _ h => h.elim))
      clear hc6 hf6 hc7 hf7
      go_wp2_with fail
      refine (HWo.out _).mono ?_
      rintro e w8 ⟨rfl, hf8⟩
      have HF8 : Hid (Fr (fun _ => False) wr w8) := HF7.out.trans hf8 (fun _ _ h => h)
      have HC8 : Hid (RowCl w8 wr.heap.size (.func (.func 92) #[] #[.pointer (some ⟨bs, 0, none⟩), .pointer (some ⟨bb, 0, none⟩), .pointer (some ⟨bw, 0, none⟩)]) W H (.slice (some ⟨g, 0, none⟩) N cap) (n : Int) 0 ∧ ToldCl w8 wr.heap.size ba bo bt bm bl W H (.slice (some ⟨g, 0, none⟩) N cap) WR HR (.slice ar nr cr) dx dy n) := ⟨HC7.out.1.kept hf8 (fun _ _ _ h => h), HC7.out.2.kept hf8 (fun _ _ _ h => h)⟩
      have HP0 : Hid (PxAt D cx W H n g cap Pn sN w8 0 sN w8) := by
        have ha := HAt.out
        exact ⟨D.kept ha.1 HF8.out (fun _ _ h => h) (fun h => h) (fun h => h), rfl, ha.2.2.1.kept HF8.out (fun h => h), Fr.refl _ _, fun k hk => Or.inl hk, ha.2.1⟩
      clear hf8 c0 c1 c2
      obtain ⟨c0, c1, c2, -, -, -, -, -⟩ := HSX.out w8 (HF8.out.mono (fun _ _ h => h.elim))
      have HEnd : Hid (∀ (s1 : D.S) (w1 : World), PxAt D cx W H n g cap Pn sN w8 W s1 w1 → ThAt D cx W H g cap P s w5 (n + 1) s1 w1) := fun s1 w1 h => HTh.out.next hlt HF8.out (by rw [← HPn.out]; exact h)
      have hg8 : g < w8.heap.size := by have := HF8.out.size; have := HTh.out.fr.size; omega
      have HLo : Hid (∀ k, wr.heap.size ≤ k → ¬ (D.own sN k ∨ k = g)) := fun k hk e => by
        rcases e with e | e
        · have := D.lt HAt.out.1 e; omega
        · have := HTh.out.fr.size; omega
      have HCl : Hid (∀ w', Fr (fun k => D.own sN k ∨ k = g) w8 w' → RowCl w' wr.heap.size (.func (.func 92) #[] #[.pointer (some ⟨bs, 0, none⟩), .pointer (some ⟨bb, 0, none⟩), .pointer (some ⟨bw, 0, none⟩)]) W H (.slice (some ⟨g, 0, none⟩) N cap) (n : Int) 0 ∧ ToldCl w' wr.heap.size ba bo bt bm bl W H (.slice (some ⟨g, 0, none⟩) N cap) WR HR (.slice ar nr cr) dx dy n) := fun w' f => ⟨HC8.out.1.kept f (fun k a _ => HLo.out k a), HC8.out.2.kept f (fun k a _ => HLo.out k a)⟩
      have HRx : Hid (∀ w', Fr (fun k => D.own sN k ∨ k = g) w8 w' → Bm w' (.slice ar nr cr) WR HR PR) := fun w' f => HRw.out w' ((HF8.out.mono (fun _ _ h => h.elim)).trans f (fun _ _ h => h))
      have HAn : Hid (¬ D.own sN g ∧ (∀ x, x < W → D.may (Pn x n).toNat)) := ⟨HAt.out.2.2.2.1, HAt.out.2.2.2.2⟩
      go_wp2_with fail
      clear c0 c1 c2
      clear HLo HC8 HC7 HF7 HWo HTl HMk HSX HRw HAt
      go_loopw [11, 12, 31] (fun _ _ j wr => ∃ (m : Nat) (sM : D.S), m ≤ W ∧ j = .int .i64 m ∧ PxAt D cx W H n g cap Pn sN w8 m sM wr) (fun _ _ j _ => W - (intOf j).toNat)
      case atStart => exact ⟨0, sN, Nat.zero_le _, rfl, HP0.out⟩
      case round =>
        obtain ⟨m, sM, hm, rfl, hp⟩ := hrel
        have HP : Hid (PxAt D cx W H n g cap Pn sN w8 m sM wr) := hp
        clear hp
        by_cases hmW : m < W
        · have hpx := HP.out
          obtain ⟨Pc, HPc⟩ : ∃ Pc, Hid (Pc = (pixW D.ask cx base n m (D.abs sN, Pn)).2) := ⟨_, rfl⟩
          obtain ⟨ac, HAc⟩ : ∃ ac, Hid (ac = (pixW D.ask cx base n m (D.abs sN, Pn)).1) := ⟨_, rfl⟩
          have hrow := hpx.row
          have habs := hpx.abs
          rw [← HPc.out] at hrow
          rw [← HAc.out] at habs
          have hA : m / 64 < stride W := by unfold stride; omega
          have hXl := wd_lt W Pc n (m / 64)
          have hcl := cxR_lt W (refP WR HR PR dx dy) (fun _ _ => refP_le _ _ _ _ _ _ _) Pc m n
          rw [← HCX.out] at hcl
          have hseen := hrow.seen (by rw [← HNN.out]; exact f3)
          rw [← HNN.out] at hseen
          have HCtx : Hid (∀ w', Fr (fun _ => False) wr w' → Calls Try.prog 93 #[.int .i64 m, .pointer (some ⟨ba, 0, none⟩), .pointer (some ⟨bo, 0, none⟩), .pointer (some ⟨bt, 0, none⟩), .pointer (some ⟨bm, 0, none⟩), .pointer (some ⟨bl, 0, none⟩)] w' fun e w'' => e = .returned (.int .i64 (cx Pc m n : Nat)) ∧ Fr (fun _ => False) w' w'') := fun w' f => by
            have f8 := hpx.frT (f.mono (fun _ _ h => h.elim))
            rw [HCX.out]
            exact context_any _ ba bo bt bm bl W H _ Pc WR HR _ PR dx dy m n w' (HCl.out w' f8).2 (hseen.kept f) (HRx.out w' f8).seen h1 f1 HX.out.2.2.1 HX.out.2.2.2 (by omega) hlt HX.out.1
          have HOwn : Hid (∀ w', Fr (fun _ => False) wr w' → Calls Try.prog 92 #[.int .i64 m, .pointer (some ⟨bs, 0, none⟩), .pointer (some ⟨bb, 0, none⟩), .pointer (some ⟨bw, 0, none⟩)] w' fun e w'' => e = .returned (.int .i64 ((Pc m n).toNat : Nat)) ∧ Fr (fun _ => False) w' w'') := fun w' f => by
            have f8 := hpx.frT (f.mono (fun _ _ h => h.elim))
            rcases (HCl.out w' f8).1 with ⟨e, _⟩ | ⟨bs', bb', bw', u, e, a, b, c, _, _, _, y1, y2, r⟩
            · cases e
            · simp only [Value.func.injEq, true_and, Array.mk.injEq, List.cons.injEq, Value.pointer.injEq, Option.some.injEq, Addr.mk.injEq, and_true] at e
              obtain ⟨rfl, rfl, rfl⟩ := e
              have hr0 := r w' Pc (hseen.kept f)
              rw [Int.toNat_natCast] at hr0
              have := row2_any bs bb bw W H n Pc _ u 0 m w' a b c hr0 h1 f1 hlt (by omega) (by omega) (by omega)
              rw [show pixI W H Pc ((m : Int) - 0) n = (Pc m n).toNat by unfold pixI; rw [if_pos (by omega), show ((m : Int) - 0).toNat = m by omega, Int.toNat_natCast]] at this
              exact this
          have HCall : Hid (∀ (w' : World), Fr (fun _ => False) wr w' → Calls Try.prog 66 #[.int .i64 (cx Pc m n : Nat), .int .i64 ((Pc m n).toNat : Nat), .pointer (some ⟨pc, 0, none⟩), .pointer (some ⟨pb, 0, none⟩)] w' fun e w'' => e = .returned (.int .i64 ((D.ask ac ((base + cx Pc m n : Nat) : Int) (Pc m n).toNat).1 : Nat)) ∧ ∃ s', D.At w'' s' ∧ D.abs s' = (D.ask ac ((base + cx Pc m n : Nat) : Int) (Pc m n).toNat).2 ∧ Fr (D.own sM) w' w'' ∧ (∀ k, D.own s' k → D.own sM k ∨ w'.heap.size ≤ k)) := fun w' f => by
            have hx := hpx.left
            have := D.calls w' sM (cx Pc m n) (Pc m n).toNat (D.kept hpx.at_ f (fun _ _ h => h) (fun h => h) (fun h => h)) (by omega) (by omega) (by have := Bool.toNat_le (Pc m n); omega)
            rw [habs] at this
            exact this
          have hzl : (D.ask ac ((base + cx Pc m n : Nat) : Int) (Pc m n).toNat).1 < 2 := D.ask_lt _ _ _ (by have := Bool.toNat_le (Pc m n); omega)
          have hPn : Pc m n = Pn m n := by rw [HPc.out, pixW_other _ _ _ _ _ _ _ _ (by omega)]
          have hzm : (Pc m n).toNat ≤ (D.ask ac ((base + cx Pc m n : Nat) : Int) (Pc m n).toNat).1 := D.ask_le _ _ _ (by rw [hPn]; exact HAn.out.2 m hmW)
          obtain ⟨r, HRr⟩ : ∃ r, Hid (r = D.ask ac ((base + cx Pc m n : Nat) : Int) (Pc m n).toNat) := ⟨_, rfl⟩
          rw [← HRr.out] at hzl hzm HCall
          obtain ⟨z, an⟩ := r
          have HZM : Hid ((Pc m n).toNat ≤ z) := hzm
          have hzl' : z < 2 := hzl
          have HNx : Hid (∀ (s5 : D.S) (v5 v6 : World), D.At v5 s5 → D.abs s5 = an → Fr (fun k => D.own sM k) wr v5 → (∀ k, D.own s5 k → D.own sM k ∨ wr.heap.size ≤ k) → Fr (fun k => k = g) v5 v6 → RowAt v6 g cap W H (putPix Pc m n (decide (z = 1))) → PxAt D cx W H n g cap Pn sN w8 (m + 1) s5 v6) := fun s5 v5 v6 a1 a2 a3 a4 a5 a6 => by
            have hr0 := HRr.out
            rw [HPc.out] at hr0 a6
            rw [HAc.out] at hr0
            exact hpx.next HAn.out.1 hg8 HK.out.2.2.2.2.2.2.1 HK.out.2.2.2.2.2.2.2 hr0 a1 a2 a3 a4 a5 a6
          simp only [] at HCall
          have HRW : Hid (∀ w', Fr (fun k => D.own sM k) wr w' → RowAt w' g cap W H Pc) := fun w' f => hrow.kept f (fun e => by rcases hpx.own g e with h | h; exact HAn.out.1 h; omega)
          have HPX : Hid (∀ (v5 : World) (V : Nat), RowAt v5 g cap W H Pc → V < 18446744073709551616 → (∀ k, k < 64 → V.testBit (63 - k) = (if k = m % 64 then decide (z = 1) else (wd W Pc n (m / 64)).testBit (63 - k))) → RowAt (v5.setCell ⟨g, n * stride W + m / 64, none⟩ (.int .u64 (V : Int))) g cap W H (putPix Pc m n (decide (z = 1)))) := fun v5 V a b c => a.pixel hmW hlt b c
          have HCw : Hid (∀ w', RowAt w' g cap W H Pc → w'.cell? ⟨g, n * stride W + m / 64, none⟩ = some (.int .u64 (wd W Pc n (m / 64) : Nat)) ∧ w'.frozen? ⟨g, n * stride W + m / 64, none⟩ = false) := fun w' h => by
            obtain ⟨cur5, hc5, _, _, _, _⟩ := h.cur
            refine ⟨?_, by simp [World.frozen?, hc5]⟩
            rw [World.ownsRow.cellAt h _ (by have := at_lt (W := W) hlt hA; omega), wordCells_get, render_get Pc hlt hA]; rfl
          have HWN : Hid (z = 0 → ∀ k, k < 64 → (wd W Pc n (m / 64)).testBit (63 - k) = (if k = m % 64 then decide (z = 1) else (wd W Pc n (m / 64)).testBit (63 - k))) := fun hz => by
            have hz0 := HZM.out
            rw [hz] at hz0 ⊢
            exact word_none W Pc m n hmW (by cases hh : Pc m n; rfl; rw [hh] at hz0; simp at hz0)
          have HSO : Hid (∀ w', Calls Try.prog 79 #[.int .i64 (m : Int)] w' fun e w'' => e = .returned (.int .i64 ((63 - m % 64 : Nat) : Int)) ∧ w'' = w') := fun w' => shiftOf_any m w' (by omega)
          clear hpx hrow habs hPn hseen hzm hzl hcl
          generalize cx Pc m n = K at *
          generalize (Pc m n).toNat = b at *
          generalize wd W Pc n (m / 64) = X at *
          have e1 : (m : Int).tdiv 64 = (m : Int) / 64 := Int.tdiv_eq_ediv_of_nonneg (by omega)
          obtain ⟨A, hA1⟩ : ∃ A, A = m / 64 := ⟨_, rfl⟩
          have g6 : IntKind.i64.wrap ((m : Int) / 64) = (A : Int) := by rw [IntKind.wrap_i64]; omega
          have hpw : 2 ^ (63 - m % 64) < 18446744073709551616 := Nat.pow_lt_pow_right (by omega) (show 63 - m % 64 < 64 by omega)
          have HV1 : Hid (bits BinOp.or IntKind.u64 (X : Int) (IntKind.u64.wrap (2 ^ (63 - m % 64))) = ((X ||| 2 ^ (63 - m % 64) : Nat) : Int)) := by
            show _ = _
            rw [show ((2 : Int) ^ (63 - m % 64)) = ((2 ^ (63 - m % 64) : Nat) : Int) by push_cast; rfl]
            generalize 2 ^ (63 - m % 64) = pw at *
            rw [IntKind.wrap_u64, Int.emod_eq_of_lt (by omega) (by omega), bor_u64 _ _ hXl hpw]
          have HV0 : Hid (bits BinOp.or IntKind.u64 (X : Int) 0 = (X : Int)) := by
            have := bor_u64 X 0 hXl (by decide)
            rw [Nat.or_zero] at this
            exact this
          have HVL : Hid (X ||| 2 ^ (63 - m % 64) < 18446744073709551616) := Nat.or_lt_two_pow (n := 64) hXl hpw
          have HWM : Hid (∀ k, k < 64 → (X ||| 2 ^ (63 - m % 64)).testBit (63 - k) = (if k = m % 64 then true else X.testBit (63 - k))) := word_more X m
          clear hpw
          rw [← hA1] at hA HPX HCw
          generalize hSS : stride W = S at *
          generalize n * S = Y at *
          obtain ⟨M, hM⟩ : ∃ M, M = 63 - m % 64 := ⟨_, rfl⟩
          rw [← hM] at HSO HV1 HVL HWM
          have hM2 : M < 64 := by omega
          have gA0 : (0 : Int) ≤ (A : Int) := by omega
          have gA1 : (A : Int) < (S : Int) := by omega
          have gA2 : (A : Int).toNat = A := by omega
          clear hM hA1 hSS
          go_wp2_with fail
          refine (HCtx.out _ (Fr.refl _ _)).mono ?_
          rintro e v1 ⟨rfl, hv1⟩
          go_wp2_with fail
          refine (HOwn.out _ hv1).mono ?_
          rintro e v2 ⟨rfl, hv2⟩
          go_wp2_with fail
          refine (HCall.out _ (hv1.trans hv2 (fun _ _ h => h))).mono ?_
          rintro e v5 ⟨rfl, s5, hat5, hab5, hf5, how5⟩
          have HF5v : Hid (Fr (fun k => D.own sM k) wr v5) := ((hv1.trans hv2 (fun _ _ h => h)).mono (fun _ _ h => h.elim)).trans hf5 (fun _ _ hh => hh)
          have HR5 : Hid (RowAt v5 g cap W H Pc) := HRW.out v5 HF5v.out
          obtain ⟨hcx5, hfz5⟩ := HCw.out v5 HR5.out
          have HN5 : Hid (∀ v6, Fr (fun k => k = g) v5 v6 → RowAt v6 g cap W H (putPix Pc m n (decide (z = 1))) → PxAt D cx W H n g cap Pn sN w8 (m + 1) s5 v6) := fun v6 a b => HNx.out s5 v5 v6 hat5 hab5 HF5v.out (fun k hk => by
            have h7 := hv1.size
            have h8 := hv2.size
            rcases how5 k hk with a | a
            · exact Or.inl a
            · exact Or.inr (by omega)) a b
          clear hat5 hab5 hf5 how5 hv1 hv2
          have HR6 : Hid (∀ (V : Nat) (vi : Int), vi = (V : Int) → V < 18446744073709551616 → (∀ k, k < 64 → V.testBit (63 - k) = (if k = m % 64 then decide (z = 1) else X.testBit (63 - k))) → PxAt D cx W H n g cap Pn sN w8 (m + 1) s5 (v5.setCell ⟨g, Y + A, none⟩ (.int .u64 vi)).drew) := fun V vi hvi a b => by
            subst hvi
            have c : Fr (fun k => k = g) v5 (v5.setCell ⟨g, Y + A, none⟩ (.int .u64 (V : Int))) := (Fr.refl (fun k => k = g) v5).setCell (p := ⟨g, Y + A, none⟩) (fun _ => rfl) _
            exact HN5.out _ c.drew ((HPX.out v5 V HR5.out a b).kept (Fr.refl (fun _ => False) _).drew (fun h => h))
          rcases (show z = 0 ∨ z = 1 by omega) with rfl | rfl
          · go_wp2_with fail
            refine wp_region_noPanic ?_
            go_region_with (first | (go_at_call 79; refine (HSO.out _).mono ?_; rintro e v ⟨rfl, rfl⟩))
            all_goals refine NoPanic.normal ?_
            all_goals go_wp2_with fail
            all_goals exact ⟨⟨m + 1, s5, by omega, by rw [Int.natCast_add]; rfl, HR6.out X _ (by rw [Int.zero_mul]; exact HV0.out) hXl (HWN.out (by simp))⟩, by simp only [intOf]; omega⟩
          · go_wp2_with fail
            refine wp_region_noPanic ?_
            go_region_with (first | (go_at_call 79; refine (HSO.out _).mono ?_; rintro e v ⟨rfl, rfl⟩))
            all_goals refine NoPanic.normal ?_
            all_goals go_wp2_with fail
            all_goals exact ⟨⟨m + 1, s5, by omega, by rw [Int.natCast_add]; rfl, HR6.out (X ||| 2 ^ M) _ (by rw [Int.one_mul]; exact HV1.out) HVL.out HWM.out⟩, by simp only [intOf]; omega⟩
        · obtain rfl : m = W := by omega
          have HE1 := (show Hid _ from HEnd.out sM wr HP.out)
          go_wp2_with fail
          exact ⟨⟨n + 1, sM, by omega, by rw [Int.natCast_add]; rfl, HE1.out⟩, by simp only [intOf]; omega⟩
    · obtain rfl : n = H := by omega
      have hth := HTh.out
      obtain ⟨b0, b1, b3⟩ := HB5.out _ hth.fr
      have cq : wr.cell? ⟨w.heap.size + 1 + 1, 0, none⟩ = some (.int .i64 0) := by simp [World.cell?, b3]
      have cf : wr.frozen? ⟨w.heap.size + 1 + 1, 0, none⟩ = false := by simp [World.frozen?, b3]
      clear b0 b1 hth
      go_wp2_with fail
      refine leaves_cons (f := 75) (args := #[.pointer (some ⟨w.heap.size + 1 + 1, 0, none⟩)]) (by simp) (by simp [go_sem]) ?_
      refine (caught_d _ _).mono ?_
      rintro e u' w'' ⟨rfl, rfl, rfl⟩
      have hb6 : (wr.setCell ⟨w.heap.size + 1 + 1, 0, none⟩ (.int .i64 0)).cell? ⟨w.heap.size + 1 + 1, 0, none⟩ = some (.int .i64 0) := by simp [World.cell?, World.setCell, Array.getElem?_modify, b3]
      have h6 : Fr (fun k => k = w.heap.size + 1 + 1) wr (wr.setCell ⟨w.heap.size + 1 + 1, 0, none⟩ (.int .i64 0)) := (Fr.refl (fun k => k = w.heap.size + 1 + 1) wr).setCell (p := ⟨w.heap.size + 1 + 1, 0, none⟩) (fun _ => rfl) _
      have hno : ∀ k, D.own sN k → ¬ k = w.heap.size + 1 + 1 := fun k hk => by
        rcases HTh.out.own k hk with a | a
        · have := D.lt HK.out.1 a; omega
        · have : w.heap.size + 1 + 1 < w5.heap.size := lt_of_block (HB5.out w5 (Fr.refl _ _)).2.2
          omega
      have hpl := D.plt HK.out.1
      simp [Leaves, settle, results, Try.results52, go_sem, hb6]
      refine ⟨sN, D.kept HTh.out.at_ h6 hno (by omega) (by omega), HTh.out.abs, HTh.out.row.kept h6 (by omega), ?_, fun k hk => ?_⟩
      · exact ((HF5.out.mono (fun _ _ h => h.elim)).trans HTh.out.fr (fun _ _ h => h)).trans h6 (fun i hi e => by omega)
      · rcases HTh.out.own k hk with a | a
        · exact Or.inl a
        · exact Or.inr (by have := HF5.out.size; omega)

end Go.Proofs.Ytmfpoabhmpljgaa
