/- 'pixelsAgain' and what it takes back. -/
import Derived.Test.YtpblenebmjmijaaEa
namespace Go.Proofs.Ytpblenebmjmijaa
set_option maxRecDepth 100000
open Go.RowKit

/-- A rectangle's step: its variables: the map, what was there, the places across and down. -/
structure RectAt (w : World) (s t b b0 q1 n1 q2 n2 : Nat) : Prop where
  c0 : w.heap[s]? = some (.cells #[.pointer (some ⟨b, 0, none⟩)] 57 (0, 0))
  c1 : w.heap[t]? = some (.cells #[.pointer (some ⟨b0, 0, none⟩)] 57 (0, 0))
  c2 : w.heap[s + 1]? = some (.cells #[.int .i64 q1, .int .i64 n1] 73 (0, 0))
  c3 : w.heap[s + 2]? = some (.cells #[.int .i64 q2, .int .i64 n2] 73 (0, 0))
def rectCaps (s t : Nat) : Array Value := #[.pointer (some ⟨s, 0, none⟩), .pointer (some ⟨t, 0, none⟩), .pointer (some ⟨s + 1, 0, none⟩), .pointer (some ⟨s + 2, 0, none⟩)]
theorem RectAt.kept {S : Nat → Prop} {w w' : World} {s t b b0 q1 n1 q2 n2 : Nat} (h : RectAt w s t b b0 q1 n1 q2 n2) (f : Fr S w w') (h1 : ∀ k, k = s ∨ k = t ∨ k = s + 1 ∨ k = s + 2 → ¬ S k) : RectAt w' s t b b0 q1 n1 q2 n2 :=
  ⟨(f.block _ (lt_of_block h.c0) (h1 _ (Or.inl rfl))).trans h.c0, (f.block _ (lt_of_block h.c1) (h1 _ (Or.inr (Or.inl rfl)))).trans h.c1, (f.block _ (lt_of_block h.c2) (h1 _ (Or.inr (Or.inr (Or.inl rfl))))).trans h.c2, (f.block _ (lt_of_block h.c3) (h1 _ (Or.inr (Or.inr (Or.inr rfl))))).trans h.c3⟩

set_option maxHeartbeats 1000000 in
theorem undo_rect (b g cap W H b0 g0 cap0 : Nat) (P P0 : Nat → Nat → Bool) (s t q1 n1 q2 n2 : Nat) (w : World) (h : MapAt w b g cap W H P) (h0 : MapAt w b0 g0 cap0 n1 n2 P0) (hp : RectAt w s t b b0 q1 n1 q2 n2) (hne : b0 ≠ b) (hbg : b0 ≠ g) (hgg : g0 ≠ g) (hq1 : q1 ≤ 1048576) (hq2 : q2 ≤ 1048576) :
    Calls Try.prog 47 (rectCaps s t) w fun e w' => e = .returned (.tuple #[]) ∧ MapAt w' b g cap W H (blitPix (opB 4) P P0 n1 n2 0 0 n1 n2 q1 q2) ∧ Fr (fun k => k = g) w w' := by
  have c0 := cell_of_one hp.c0
  have c1 := cell_of_one hp.c1
  obtain ⟨c2, c2', _⟩ := cell_of_two hp.c2
  obtain ⟨c3, c3', _⟩ := cell_of_two hp.c3
  have HA : Hid (MapAt w b g cap W H P) := h
  have H0 : Hid (MapAt w b0 g0 cap0 n1 n2 P0) := h0
  obtain ⟨f1, f2, f3⟩ := size_facts h0.wpos h0.hpos h0.area
  clear hp h h0
  unfold rectCaps
  go_enter Try.func47, Try.ntmps47
  go_wp2_with fail
  refine (blit_other 4 b g cap W H b0 g0 cap0 n1 n2 P P0 0 0 n1 n2 q1 q2 _ HA.out H0.out (by decide) hne hbg hgg (by omega) (by omega) (by omega) (by omega) (by omega) (by omega)).mono ?_
  rintro e w1 ⟨rfl, hm, hf⟩
  have HM : Hid (MapAt w1 b g cap W H (blitPix (opB 4) P P0 n1 n2 0 0 n1 n2 q1 q2)) := hm
  have HF : Hid (Fr (fun k => k = g) w w1) := hf
  clear hm hf c0 c1 c2 c3 c2' c3'
  go_wp2_with fail
  go_end0
  exact ⟨rfl, HM.out, HF.out⟩

theorem heap4 (w : World) (a b c d : Obj) : ((((w.alloc a).alloc b).alloc c).alloc d).heap[w.heap.size]? = some a ∧ ((((w.alloc a).alloc b).alloc c).alloc d).heap[w.heap.size + 1]? = some b ∧ ((((w.alloc a).alloc b).alloc c).alloc d).heap[w.heap.size + 2]? = some c ∧ ((((w.alloc a).alloc b).alloc c).alloc d).heap[w.heap.size + 3]? = some d := by
  have e1 := heap_alloc_new w a
  have e2 := heap_alloc_new (w.alloc a) b
  have e3 := heap_alloc_new ((w.alloc a).alloc b) c
  have e4 := heap_alloc_new (((w.alloc a).alloc b).alloc c) d
  simp only [World.size_alloc] at e2 e3 e4
  refine ⟨?_, ?_, ?_, e4⟩
  · rw [heap_alloc_old _ _ (by simp; omega), heap_alloc_old _ _ (by simp; omega), heap_alloc_old _ _ (by simp)]; exact e1
  · rw [heap_alloc_old _ _ (by simp), heap_alloc_old _ _ (by simp)]; exact e2
  · rw [heap_alloc_old _ _ (by simp)]; exact e3
theorem cell_pair {w : World} {b : Nat} {x y : Value} {t : TypeId} (h : w.heap[b]? = some (.cells #[x, y] t (0, 0))) : w.cell? ⟨b, 0, none⟩ = some x ∧ w.cell? ⟨b, 1, none⟩ = some y :=
  ⟨(cell_of_two h).1, (cell_of_two h).2.1⟩
set_option maxHeartbeats 1000000 in
theorem pixelsAgain_none (b q1 n1 q2 n2 : Nat) (w : World) (hn : n1 = 0 ∨ n2 = 0) :
    Calls Try.prog 27 #[.pointer (some ⟨b, 0, none⟩), .agg #[.int .i64 q1, .int .i64 n1], .agg #[.int .i64 q2, .int .i64 n2]] w fun e w' => e = .returned (.agg #[.func (.func 45) #[] #[]]) ∧ Fr (fun _ => False) w w' := by
  by_cases h1 : n1 = 0
  · subst h1
    clear hn
    go_enter Try.func27, Try.ntmps27
    go_wp2_with fail
    refine bodyPost_ret (results_cell_row rfl _ _ (w.heap.size + 3) 63 #[.func (.func 45) #[] #[]] (0, 0) _ rfl (heap4 w _ _ _ _).2.2.2 Try.underlying63 rfl (by kernel_rfl)) rfl ⟨rfl, ?_⟩
    exact ((((Fr.refl _ w).alloc _).alloc _).alloc _).alloc _
  · have h2 : n2 = 0 := by omega
    subst h2
    clear hn
    have h1' : ((n1 : Int) == 0) = false := by rw [beq_eq_false_iff_ne]; omega
    go_enter Try.func27, Try.ntmps27
    go_wp2_with fail
    refine bodyPost_ret (results_cell_row rfl _ _ (w.heap.size + 3) 63 #[.func (.func 45) #[] #[]] (0, 0) _ rfl (heap4 w _ _ _ _).2.2.2 Try.underlying63 rfl (by kernel_rfl)) rfl ⟨rfl, ?_⟩
    exact ((((Fr.refl _ w).alloc _).alloc _).alloc _).alloc _

set_option maxHeartbeats 1000000 in
theorem pixelsAgain_some (b g cap W H : Nat) (P : Nat → Nat → Bool) (q1 n1 q2 n2 : Nat) (w : World) (h : MapAt w b g cap W H P) (h1 : 1 ≤ n1) (h2 : 1 ≤ n2) (hq1 : q1 + n1 ≤ W) (hq2 : q2 + n2 ≤ H) :
    Calls Try.prog 27 #[.pointer (some ⟨b, 0, none⟩), .agg #[.int .i64 q1, .int .i64 n1], .agg #[.int .i64 q2, .int .i64 n2]] w fun e w' => ∃ t b0 g0, e = .returned (.agg #[.func (.func 47) #[] (rectCaps w.heap.size t)]) ∧ RectAt w' w.heap.size t b b0 q1 n1 q2 n2 ∧ MapAt w' b0 g0 (n2 * stride n1) n1 n2 (cropPix W H P q1 q2) ∧ Fr (fun _ => False) w w' ∧ w.heap.size ≤ t ∧ w.heap.size ≤ b0 ∧ w.heap.size ≤ g0 := by
  have HA : Hid (MapAt w b g cap W H P) := h
  obtain ⟨f1, f2, _⟩ := size_facts h.wpos h.hpos h.area
  have HAR : Hid (n1 * n2 ≤ 1048576) := Nat.le_trans (Nat.mul_le_mul (show n1 ≤ W by omega) (show n2 ≤ H by omega)) h.area
  have hmf : ∀ fn first cap w, (Instr.makeFunc fn first cap).run Try.prog w = .ok (.func fn first cap) w := fun _ _ _ _ => rfl
  have h1' : ((n1 : Int) == 0) = false := by rw [beq_eq_false_iff_ne]; omega
  have h2' : ((n2 : Int) == 0) = false := by rw [beq_eq_false_iff_ne]; omega
  clear h
  go_enter Try.func27, Try.ntmps27
  go_wp2_with fail
  obtain ⟨w1, HW1⟩ : ∃ w1, Hid (w1 = ((((w.alloc (.cells #[.pointer (some ⟨b, 0, none⟩)] 57)).alloc (.cells #[.int .i64 q1, .int .i64 n1] 73)).alloc (.cells #[.int .i64 q2, .int .i64 n2] 73)).alloc (.cells #[.nilFunc] 63))) := ⟨_, rfl⟩
  rw [← HW1.out]
  have HF1 : Hid (Fr (fun _ => False) w w1) := by rw [HW1.out]; exact ((((Fr.refl _ _).alloc _).alloc _).alloc _).alloc _
  have hsz : w1.heap.size = w.heap.size + 4 := by rw [HW1.out]; simp
  refine (crop_any b g cap W H P q1 q2 n1 n2 _ (HA.out.kept HF1.out (fun h => h) (fun h => h)) h1 h2 HAR.out (by omega) (by omega)).mono ?_
  rintro e w2 ⟨b0, g0, rfl, hn⟩
  have HN : Hid (NewMap w1 w2 b0 g0 (n2 * stride n1) n1 n2 (cropPix W H P q1 q2)) := hn
  have HB : Hid (w2.heap[w.heap.size]? = some (.cells #[.pointer (some ⟨b, 0, none⟩)] 57 (0, 0)) ∧ w2.heap[w.heap.size + 1]? = some (.cells #[.int .i64 q1, .int .i64 n1] 73 (0, 0)) ∧ w2.heap[w.heap.size + 2]? = some (.cells #[.int .i64 q2, .int .i64 n2] 73 (0, 0)) ∧ w2.heap[w.heap.size + 3]? = some (.cells #[.nilFunc] 63 (0, 0))) := by
    obtain ⟨a, b, c, d⟩ := heap4 w (.cells #[.pointer (some ⟨b, 0, none⟩)] 57) (.cells #[.int .i64 q1, .int .i64 n1] 73) (.cells #[.int .i64 q2, .int .i64 n2] 73) (.cells #[.nilFunc] 63)
    rw [← HW1.out] at a b c d
    exact ⟨(hn.fr.block _ (by omega) (fun h => h)).trans a, (hn.fr.block _ (by omega) (fun h => h)).trans b, (hn.fr.block _ (by omega) (fun h => h)).trans c, (hn.fr.block _ (by omega) (fun h => h)).trans d⟩
  have k3 := cell_of_one HB.out.2.2.2
  have kf : w2.frozen? ⟨w.heap.size + 3, 0, none⟩ = false := by simp [World.frozen?, HB.out.2.2.2]
  have hlt : w.heap.size + 3 < w2.heap.size := lt_of_block HB.out.2.2.2
  clear hn h1' h2'
  go_wp2_with fail
  have hS : Fr (fun k => k = w.heap.size + 3) w2 ((w2.setCell ⟨w.heap.size + 3, 0, none⟩ (.func (.func 47) #[] (rectCaps w.heap.size w2.heap.size))).alloc (.cells #[.pointer (some ⟨b0, 0, none⟩)] 57)) := (Fr.setCell (Fr.refl (fun k => k = w.heap.size + 3) w2) (p := ⟨w.heap.size + 3, 0, none⟩) (fun _ => rfl) _).alloc _
  have hn := HN.out
  have hb0 := hn.nb
  have hg0 := hn.ng
  have hdiff : b0 ≠ w.heap.size + 3 ∧ g0 ≠ w.heap.size + 3 := ⟨by omega, by omega⟩
  refine bodyPost_ret (results_cell_row rfl _ _ (w.heap.size + 3) 63 #[.func (.func 47) #[] (rectCaps w.heap.size w2.heap.size)] (0, 0) _ rfl ?_ Try.underlying63 rfl (by kernel_rfl)) rfl ⟨w2.heap.size, b0, g0, rfl, ⟨?_, ?_, ?_, ?_⟩, ?_, ?_, ?_, by omega, by omega⟩
  · rw [heap_alloc_old _ _ (by simp [World.setCell]; omega)]
    simp only [World.setCell, Array.getElem?_modify]
    rw [show w.heap.size + 1 + 1 + 1 = w.heap.size + 3 from rfl, HB.out.2.2.2]
    simp [rectCaps]
  · exact (hS.block _ (by omega) (by omega)).trans HB.out.1
  · have := heap_alloc_new (w2.setCell ⟨w.heap.size + 3, 0, none⟩ (.func (.func 47) #[] (rectCaps w.heap.size w2.heap.size))) (.cells #[.pointer (some ⟨b0, 0, none⟩)] 57)
    rw [show (w2.setCell ⟨w.heap.size + 3, 0, none⟩ (.func (.func 47) #[] (rectCaps w.heap.size w2.heap.size))).heap.size = w2.heap.size by simp [World.setCell]] at this
    exact this
  · exact (hS.block _ (by omega) (by omega)).trans HB.out.2.1
  · exact (hS.block _ (by omega) (by omega)).trans HB.out.2.2.1
  · exact hn.at_.kept hS hdiff.1 hdiff.2
  · exact (HF1.out.trans hn.fr (fun _ _ h => h)).trans hS (fun k hk h => by omega)
  · omega
end Go.Proofs.Ytpblenebmjmijaa
