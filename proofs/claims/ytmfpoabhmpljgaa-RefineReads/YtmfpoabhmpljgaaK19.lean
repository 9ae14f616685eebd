/- Package refine: told. -/
import Derived.Test.YtmfpoabhmpljgaaK18
import Derived.Laws.EntriesVeiled
namespace Go.Proofs.Ytmfpoabhmpljgaa
open Go.RowKit

theorem frSetN {S : Nat → Prop} {w w' : World} {k : Nat} (h : k < w.heap.size → S k) (f : Fr S w w') (u : Value) : Fr S w (w'.setCell ⟨k, 0, none⟩ u) := Fr.setCell f h u
theorem new1 (w : World) (x : Value) {k : Nat} (t : TypeId) (h : k = w.heap.size) : (w.alloc (.cells #[x] t)).heap[k]? = some (.cells #[x] t (0, 0)) := by subst h; exact heap_alloc_new _ _
theorem blkOne {w : World} {o : Nat} {u : Value} (h : w.heap[o]? = some (.cells #[.nilFunc] 85 (0, 0))) : (w.setCell ⟨o, 0, none⟩ u).heap[o]? = some (.cells #[u] 85 (0, 0)) := one_setCell h
theorem cell_of_five {w : World} {b : Nat} {x0 x1 x2 x3 x4 : Value} {t : TypeId} (h : w.heap[b]? = some (.cells #[x0, x1, x2, x3, x4] t (0, 0))) :
    w.cell? ⟨b, 0, none⟩ = some x0 ∧ w.cell? ⟨b, 1, none⟩ = some x1 ∧ w.cell? ⟨b, 2, none⟩ = some x2 ∧ w.cell? ⟨b, 3, none⟩ = some x3 ∧ w.cell? ⟨b, 4, none⟩ = some x4 ∧ (∀ j, w.frozen? ⟨b, j, none⟩ = false) := by
  refine ⟨?_, ?_, ?_, ?_, ?_, fun j => ?_⟩ <;> simp [World.cell?, World.frozen?, h]

theorem RowCl.form {w : World} {lo : Nat} {fv : Value} {W H : Nat} {v : Value} {y s : Int} (h : RowCl w lo fv W H v y s) : ∃ (n : Nat) (c : Array Value), fv = .func (.func n) #[] c := by
  rcases h with h | ⟨bs, bb, bw, u, e, _⟩
  · exact ⟨_, _, h.1⟩
  · exact ⟨_, _, e⟩
theorem RowCl.kept' {w w' : World} {lo : Nat} {fv : Value} {W H : Nat} {v : Value} {y s : Int} (h : RowCl w lo fv W H v y s) (f : Fr (fun k => ¬ (lo ≤ k ∧ k < w.heap.size)) w w') : RowCl w' lo fv W H v y s := h.kept f (fun _ a b c => c ⟨a, b⟩)
theorem mkrow_form (W H : Nat) (v : Value) (P : Pxs) (y s : Int) (w : World) (hb : Bm w v W H P) (hy : -4611686018427387904 ≤ y ∧ y ≤ 4611686018427387904) :
    Calls Try.prog 76 #[.agg #[.int .i64 W, .int .i64 H, v], .int .i64 y, .int .i64 s] w fun e w' => ∃ (n : Nat) (c : Array Value), e = .returned (.func (.func n) #[] c) ∧ RowCl w' w.heap.size (.func (.func n) #[] c) W H v y s ∧ Fr (fun _ => False) w w' := by
  refine (mkrow_any W H v P y s w hb hy).mono ?_
  rintro e w' ⟨fv, rfl, h, f⟩
  obtain ⟨n, c, rfl⟩ := h.form
  exact ⟨n, c, rfl, h, f⟩

set_option maxRecDepth 100000 in
set_option maxHeartbeats 40000000 in
theorem told_any (W H : Nat) (v : Value) (P : Pxs) (WR HR : Nat) (vR : Value) (PR : Pxs) (dx dy : Int) (y : Nat) (w : World) (hb : Bm w v W H P) (hr : Bm w vR WR HR PR) (hy : y < H) (_hdx : -1048576 ≤ dx ∧ dx ≤ 1048576) (hdy : -1048576 ≤ dy ∧ dy ≤ 1048576) :
    Calls Try.prog 77 #[.agg #[.int .i64 W, .int .i64 H, v], .agg #[.int .i64 WR, .int .i64 HR, vR, .int .i64 dx, .int .i64 dy], .int .i64 y] w fun e w' => ∃ ba bo bt bm bl, e = .returned (toldV ba bo bt bm bl) ∧ ToldCl w' w.heap.size ba bo bt bm bl W H v WR HR vR dx dy y ∧ Fr (fun _ => False) w w' := by
  have hH := (size_facts hb.h1 hb.h2 hb.h3).2.1
  have hmf : ∀ (fn : Fn) (first cap : Array Value) (w : World), (Instr.makeFunc fn first cap).run Try.prog w = .ok (.func fn first cap) w := fun _ _ _ _ => rfl
  have HRa : Hid (∀ w', Fr (fun _ => False) w w' → Calls Try.prog 76 #[.agg #[.int .i64 W, .int .i64 H, v], .int .i64 ((y : Int) - 1), .int .i64 0] w' fun e w'' => ∃ (n : Nat) (c : Array Value), e = .returned (.func (.func n) #[] c) ∧ RowCl w'' w'.heap.size (.func (.func n) #[] c) W H v ((y : Int) - 1) 0 ∧ Fr (fun _ => False) w' w'') := fun w' f => mkrow_form W H v P ((y : Int) - 1) 0 w' (hb.kept f) (by omega)
  have HRo : Hid (∀ w', Fr (fun _ => False) w w' → Calls Try.prog 76 #[.agg #[.int .i64 W, .int .i64 H, v], .int .i64 (y : Int), .int .i64 0] w' fun e w'' => ∃ (n : Nat) (c : Array Value), e = .returned (.func (.func n) #[] c) ∧ RowCl w'' w'.heap.size (.func (.func n) #[] c) W H v (y : Int) 0 ∧ Fr (fun _ => False) w' w'') := fun w' f => mkrow_form W H v P (y : Int) 0 w' (hb.kept f) (by omega)
  have HRt : Hid (∀ w', Fr (fun _ => False) w w' → Calls Try.prog 76 #[.agg #[.int .i64 WR, .int .i64 HR, vR], .int .i64 ((y : Int) - dy - 1), .int .i64 dx] w' fun e w'' => ∃ (n : Nat) (c : Array Value), e = .returned (.func (.func n) #[] c) ∧ RowCl w'' w'.heap.size (.func (.func n) #[] c) WR HR vR ((y : Int) - dy - 1) dx ∧ Fr (fun _ => False) w' w'') := fun w' f => mkrow_form WR HR vR PR ((y : Int) - dy - 1) dx w' (hr.kept f) (by omega)
  have HRm : Hid (∀ w', Fr (fun _ => False) w w' → Calls Try.prog 76 #[.agg #[.int .i64 WR, .int .i64 HR, vR], .int .i64 ((y : Int) - dy), .int .i64 dx] w' fun e w'' => ∃ (n : Nat) (c : Array Value), e = .returned (.func (.func n) #[] c) ∧ RowCl w'' w'.heap.size (.func (.func n) #[] c) WR HR vR ((y : Int) - dy) dx ∧ Fr (fun _ => False) w' w'') := fun w' f => mkrow_form WR HR vR PR ((y : Int) - dy) dx w' (hr.kept f) (by omega)
  have HRl : Hid (∀ w', Fr (fun _ => False) w w' → Calls Try.prog 76 #[.agg #[.int .i64 WR, .int .i64 HR, vR], .int .i64 ((y : Int) - dy + 1), .int .i64 dx] w' fun e w'' => ∃ (n : Nat) (c : Array Value), e = .returned (.func (.func n) #[] c) ∧ RowCl w'' w'.heap.size (.func (.func n) #[] c) WR HR vR ((y : Int) - dy + 1) dx ∧ Fr (fun _ => False) w' w'') := fun w' f => mkrow_form WR HR vR PR ((y : Int) - dy + 1) dx w' (hr.kept f) (by omega)
  obtain ⟨ao, cv, hv, -, -⟩ := hb.seen
  obtain ⟨ar, cr, hvr, -, -⟩ := hr.seen
  generalize (render W H P).length = n0 at *
  generalize (render WR HR PR).length = n1 at *
  subst hv
  subst hvr
  have g1 : IntKind.i64.wrap ((y : Int) - 1) = (y : Int) - 1 := by rw [IntKind.wrap_i64]; omega
  have g2 : IntKind.i64.wrap ((y : Int) - dy) = (y : Int) - dy := by rw [IntKind.wrap_i64]; omega
  have g3 : IntKind.i64.wrap ((y : Int) - dy - 1) = (y : Int) - dy - 1 := by rw [IntKind.wrap_i64]; omega
  have g4 : IntKind.i64.wrap ((y : Int) - dy + 1) = (y : Int) - dy + 1 := by rw [IntKind.wrap_i64]; omega
  unfold toldV
  clear hb hr
  have HA : Hid (Fr (fun _ => False) w ((w.alloc (.cells #[.int .i64 W, .int .i64 H, .slice ao n0 cv] 26)).alloc (.cells #[.int .i64 WR, .int .i64 HR, .slice ar n1 cr, .int .i64 dx, .int .i64 dy] 97))) := ((Fr.refl _ _).alloc _).alloc _
  have HSB : Hid (∀ w', Fr (fun _ => False) ((w.alloc (.cells #[.int .i64 W, .int .i64 H, .slice ao n0 cv] 26)).alloc (.cells #[.int .i64 WR, .int .i64 HR, .slice ar n1 cr, .int .i64 dx, .int .i64 dy] 97)) w' → w'.heap[w.heap.size]? = some (.cells #[.int .i64 W, .int .i64 H, .slice ao n0 cv] 26 (0, 0)) ∧ w'.heap[w.heap.size + 1]? = some (.cells #[.int .i64 WR, .int .i64 HR, .slice ar n1 cr, .int .i64 dx, .int .i64 dy] 97 (0, 0))) := fun w' hf => by
    have e1 : ((w.alloc (.cells #[.int .i64 W, .int .i64 H, .slice ao n0 cv] 26)).alloc (.cells #[.int .i64 WR, .int .i64 HR, .slice ar n1 cr, .int .i64 dx, .int .i64 dy] 97)).heap[w.heap.size]? = some (.cells #[.int .i64 W, .int .i64 H, .slice ao n0 cv] 26 (0, 0)) := blkUp (heap_alloc_new _ _) _
    have e2 : ((w.alloc (.cells #[.int .i64 W, .int .i64 H, .slice ao n0 cv] 26)).alloc (.cells #[.int .i64 WR, .int .i64 HR, .slice ar n1 cr, .int .i64 dx, .int .i64 dy] 97)).heap[w.heap.size + 1]? = some (.cells #[.int .i64 WR, .int .i64 HR, .slice ar n1 cr, .int .i64 dx, .int .i64 dy] 97 (0, 0)) := by
      have := heap_alloc_new (w.alloc (.cells #[.int .i64 W, .int .i64 H, .slice ao n0 cv] 26)) (.cells #[.int .i64 WR, .int .i64 HR, .slice ar n1 cr, .int .i64 dx, .int .i64 dy] 97)
      rwa [World.size_alloc] at this
    exact ⟨blkOld hf e1, blkOld hf e2⟩
  have HSC : Hid (∀ w', Fr (fun _ => False) ((w.alloc (.cells #[.int .i64 W, .int .i64 H, .slice ao n0 cv] 26)).alloc (.cells #[.int .i64 WR, .int .i64 HR, .slice ar n1 cr, .int .i64 dx, .int .i64 dy] 97)) w' → w'.cell? ⟨w.heap.size, 0, none⟩ = some (.int .i64 W) ∧ w'.cell? ⟨w.heap.size, 1, none⟩ = some (.int .i64 H) ∧ w'.cell? ⟨w.heap.size, 2, none⟩ = some (.slice ao n0 cv)) := fun w' hf => by
    obtain ⟨a, b, c, _⟩ := cell_of_three (HSB.out _ hf).1
    exact ⟨a, b, c⟩
  go_enter Try.func77, Try.ntmps77
  go_wp2_with fail
  generalize ((w.alloc (.cells #[.int .i64 W, .int .i64 H, .slice ao n0 cv] 26)).alloc (.cells #[.int .i64 WR, .int .i64 HR, .slice ar n1 cr, .int .i64 dx, .int .i64 dy] 97)) = w0 at *
  have hsz : w0.heap.size ≤ w0.heap.size := Nat.le_refl _
  go_cut [7, 8] from 12 to 18 (fun u v wc => ∃ (o1 o2 : Nat) (fa fo : Value), u = .pointer (some ⟨o1, 0, none⟩) ∧ v = .pointer (some ⟨o2, 0, none⟩) ∧ w0.heap.size ≤ o1 ∧ w0.heap.size ≤ o2 ∧ wc.heap[o1]? = some (.cells #[fa] 85 (0, 0)) ∧ wc.heap[o2]? = some (.cells #[fo] 85 (0, 0)) ∧ RowCl wc w0.heap.size fa W H (.slice ao n0 cv) ((y : Int) - 1) 0 ∧ RowCl wc w0.heap.size fo W H (.slice ao n0 cv) (y : Int) 0 ∧ Fr (fun _ => False) w0 wc)
  case first =>
    clear HRt HRm HRl g2 g3 g4
    go_region_held3 (fun w' => w'.cell? ⟨w.heap.size, 0, none⟩ = some (.int .i64 W) ∧ w'.cell? ⟨w.heap.size, 1, none⟩ = some (.int .i64 H) ∧ w'.cell? ⟨w.heap.size, 2, none⟩ = some (.slice ao n0 cv)) (exact HSC.out _ (by repeat (first | with_reducible refine Fr.setCell ?_ (fun hh => absurd hh (Nat.not_lt.2 (by first | exact Nat.le_refl _ | exact Nat.le_succ _ | exact ks0 | exact Nat.le_succ_of_le ks0 | exact ks1 | exact Nat.le_succ_of_le ks1 | (simp; omega)))) _ | with_reducible refine Fr.alloc ?_ _ | with_reducible refine Fr.drew ?_ | with_reducible exact Fr.refl _ _ | with_reducible refine Fr.trans ?_ hf3 (fun _ _ hh => hh) | with_reducible refine Fr.trans ?_ hf2 (fun _ _ hh => hh)))) (first | ((have _ := hf2); go_at_call 76; refine (HRo.out _ (HA.out.trans (by repeat (first | with_reducible refine Fr.setCell ?_ (fun hh => absurd hh (Nat.not_lt.2 (by first | exact Nat.le_refl _ | exact Nat.le_succ _ | exact ks0 | exact Nat.le_succ_of_le ks0 | exact ks1 | exact Nat.le_succ_of_le ks1 | (simp; omega)))) _ | with_reducible refine Fr.alloc ?_ _ | with_reducible refine Fr.drew ?_ | with_reducible exact Fr.refl _ _ | with_reducible refine Fr.trans ?_ hf3 (fun _ _ hh => hh) | with_reducible refine Fr.trans ?_ hf2 (fun _ _ hh => hh))) (fun _ _ h => h))).mono ?_; rintro e u3 ⟨no, co, rfl, hr3, hf3⟩; (have hc3 := hf3.cells); (have hz3 := hf3.frozens); (have hs3 := hf3.size); (have ks1 : w0.heap.size ≤ u3.heap.size := by (try simp at hs3); omega); (try have ku0 : u2.heap.size ≤ u3.heap.size := by (try simp at hs3); omega); (try have ku1 : u2.heap.size < u3.heap.size := by (try simp at hs3); omega); (try have ku2 : u2.heap.size + 1 < u3.heap.size := by (try simp at hs3); omega); (try have ku3 : u2.heap.size + 1 ≤ u3.heap.size := by (try simp at hs3); omega); (try have ku4 : w0.heap.size < u3.heap.size := by (try simp at hs3); omega); (try have ku5 : w0.heap.size + 1 < u3.heap.size := by (try simp at hs3); omega); (try have ku6 : w0.heap.size + 1 ≤ u3.heap.size := by (try simp at hs3); omega)) | (go_at_call 76; refine (HRa.out _ (HA.out.trans (by repeat (first | with_reducible refine Fr.setCell ?_ (fun hh => absurd hh (Nat.not_lt.2 (by first | exact Nat.le_refl _ | exact Nat.le_succ _ | exact ks0 | exact Nat.le_succ_of_le ks0 | exact ks1 | exact Nat.le_succ_of_le ks1 | (simp; omega)))) _ | with_reducible refine Fr.alloc ?_ _ | with_reducible refine Fr.drew ?_ | with_reducible exact Fr.refl _ _ | with_reducible refine Fr.trans ?_ hf3 (fun _ _ hh => hh) | with_reducible refine Fr.trans ?_ hf2 (fun _ _ hh => hh))) (fun _ _ h => h))).mono ?_; rintro e u2 ⟨na, ca, rfl, hr2, hf2⟩; (have hc2 := hf2.cells); (have hz2 := hf2.frozens); (have hs2 := hf2.size); (have ks0 : w0.heap.size ≤ u2.heap.size := by (try simp at hs2); omega); (try have kt0 : w0.heap.size < u2.heap.size := by (try simp at hs2); omega); (try have kt1 : w0.heap.size + 1 < u2.heap.size := by (try simp at hs2); omega); (try have kt2 : w0.heap.size + 1 ≤ u2.heap.size := by (try simp at hs2); omega)))
    all_goals go_wp2_with fail
    all_goals go_meet
    all_goals go_light
    all_goals (simp at hs2 hs3)
    all_goals clear HSC HSB HRa HRo hc2 hz2 hc3 hz3
    all_goals refine ⟨_, _, _, _, rfl, rfl, by omega, by omega, ?_, ?_, (hr2.kept' ?_).less ?_, (hr3.kept' ?_).less ?_, ?_⟩
    all_goals first
      | ((repeat (first | with_reducible exact heap_alloc_new _ _ | (with_reducible refine new1 _ _ _ ?_; simp; done) | with_reducible refine blkUp ?_ _ | with_reducible refine blkOne ?_ | (with_reducible refine blkOther ?_ ?_ _; omega) | with_reducible refine blkDrew ?_ | with_reducible refine blkOld hf3 ?_ | with_reducible refine blkOld hf2 ?_)); done)
      | ((repeat (first | (with_reducible refine frSetN (fun hh => ?_) ?_ _; (first | omega | (simp at hh; done) | (simp only [World.size_alloc]; omega) | (simp; omega) | (simp at hh; omega) | (intro hc; simp at hc; omega))) | with_reducible refine Fr.alloc ?_ _ | with_reducible refine Fr.drew ?_ | with_reducible exact Fr.refl _ _ | with_reducible refine Fr.trans ?_ hf3 (fun _ _ hh => hh.elim) | with_reducible refine Fr.trans ?_ hf2 (fun _ _ hh => hh.elim))); done)
      | exact Nat.le_refl _
      | omega
      | (simp; done)
      | (simp; omega)
      | skip
  case rest =>
    obtain ⟨o1, o2, fa, fo, rfl, rfl, l1, l2, hb1, hb2, hr1, hr2, hfc⟩ := hcut
    have HF0 : Hid (Fr (fun _ => False) w0 wc) := hfc
    have HS0 : Hid (wc.heap[o1]? = some (.cells #[fa] 85 (0, 0)) ∧ wc.heap[o2]? = some (.cells #[fo] 85 (0, 0)) ∧ RowCl wc w0.heap.size fa W H (.slice ao n0 cv) ((y : Int) - 1) 0 ∧ RowCl wc w0.heap.size fo W H (.slice ao n0 cv) (y : Int) 0) := ⟨hb1, hb2, hr1, hr2⟩
    obtain ⟨q0, q1, q2, q3, q4, qf⟩ := cell_of_five (HSB.out _ hfc).2
    clear hb1 hb2 hr1 hr2 hfc HRa HRo g1
    go_wp2_with fail
    refine (HRt.out _ (HA.out.trans HF0.out (fun _ _ h => h))).mono ?_
    rintro e w1 ⟨nt, ct, rfl, hr3, hf3⟩
    have HF1 : Hid (Fr (fun _ => False) wc (w1.alloc (.cells #[.func (.func nt) #[] ct] 85))) := hf3.alloc _
    have HR3 : Hid (RowCl w1 wc.heap.size (.func (.func nt) #[] ct) WR HR (.slice ar n1 cr) ((y : Int) - dy - 1) dx) := hr3
    have hs1 := hf3.size
    clear hr3 hf3 q0 q1 q2 q3 q4 qf
    obtain ⟨q0, q1, q2, q3, q4, qf⟩ := cell_of_five (HSB.out _ (HF0.out.trans HF1.out (fun _ _ h => h))).2
    have HN1 : Hid ((w1.alloc (.cells #[.func (.func nt) #[] ct] 85)).heap[w1.heap.size]? = some (.cells #[.func (.func nt) #[] ct] 85 (0, 0)) ∧ RowCl (w1.alloc (.cells #[.func (.func nt) #[] ct] 85)) wc.heap.size (.func (.func nt) #[] ct) WR HR (.slice ar n1 cr) ((y : Int) - dy - 1) dx) := ⟨heap_alloc_new _ _, HR3.out.kept ((Fr.refl (fun _ => False) _).alloc _) (fun _ _ _ h => h)⟩
    have hsA : w1.heap.size < (w1.alloc (.cells #[.func (.func nt) #[] ct] 85)).heap.size := by simp
    go_wp2_with fail
    generalize w1.alloc (.cells #[.func (.func nt) #[] ct] 85) = wA at *
    refine (HRm.out _ ((HA.out.trans HF0.out (fun _ _ h => h)).trans HF1.out (fun _ _ h => h))).mono ?_
    rintro e w2 ⟨nm, cm, rfl, hr4, hf4⟩
    have HF2 : Hid (Fr (fun _ => False) wA (w2.alloc (.cells #[.func (.func nm) #[] cm] 85))) := hf4.alloc _
    have HR4 : Hid (RowCl w2 wA.heap.size (.func (.func nm) #[] cm) WR HR (.slice ar n1 cr) ((y : Int) - dy) dx) := hr4
    have hs2 := hf4.size
    clear hr4 hf4 q0 q1 q2 q3 q4 qf
    obtain ⟨q0, q1, q2, q3, q4, qf⟩ := cell_of_five (HSB.out _ ((HF0.out.trans HF1.out (fun _ _ h => h)).trans HF2.out (fun _ _ h => h))).2
    have HN2 : Hid ((w2.alloc (.cells #[.func (.func nm) #[] cm] 85)).heap[w2.heap.size]? = some (.cells #[.func (.func nm) #[] cm] 85 (0, 0)) ∧ RowCl (w2.alloc (.cells #[.func (.func nm) #[] cm] 85)) wA.heap.size (.func (.func nm) #[] cm) WR HR (.slice ar n1 cr) ((y : Int) - dy) dx) := ⟨heap_alloc_new _ _, HR4.out.kept ((Fr.refl (fun _ => False) _).alloc _) (fun _ _ _ h => h)⟩
    have hsB : w2.heap.size < (w2.alloc (.cells #[.func (.func nm) #[] cm] 85)).heap.size := by simp
    go_wp2_with fail
    generalize w2.alloc (.cells #[.func (.func nm) #[] cm] 85) = wB at *
    refine (HRl.out _ (((HA.out.trans HF0.out (fun _ _ h => h)).trans HF1.out (fun _ _ h => h)).trans HF2.out (fun _ _ h => h))).mono ?_
    rintro e w3 ⟨nl, cl, rfl, hr5, hf5⟩
    have HF3 : Hid (Fr (fun _ => False) wB (w3.alloc (.cells #[.func (.func nl) #[] cl] 85))) := hf5.alloc _
    have HR5 : Hid (RowCl w3 wB.heap.size (.func (.func nl) #[] cl) WR HR (.slice ar n1 cr) ((y : Int) - dy + 1) dx) := hr5
    have hs3 := hf5.size
    clear hr5 hf5 q0 q1 q2 q3 q4 qf
    go_wp2_with fail
    go_ret
    have hsw := HA.out.size
    have hsc := HF0.out.size
    have fB3 := HF3.out
    have fA3 := HF2.out.trans fB3 (fun _ _ h => h)
    have fc3 := HF1.out.trans fA3 (fun _ _ h => h)
    refine ⟨o1, o2, w1.heap.size, w2.heap.size, w3.heap.size, rfl, ⟨⟨fa, fo, _, _, _, blkOld fc3 HS0.out.1, blkOld fc3 HS0.out.2.1, blkOld fA3 HN1.out.1, blkOld fB3 HN2.out.1, heap_alloc_new _ _, ?_, ?_, ?_, ?_, ?_⟩, by omega, by omega, by omega, by omega, by omega⟩, (HA.out.trans HF0.out (fun _ _ h => h)).trans fc3 (fun _ _ h => h)⟩
    · exact (HS0.out.2.2.1.kept fc3 (fun _ _ _ h => h)).less (by omega)
    · exact (HS0.out.2.2.2.kept fc3 (fun _ _ _ h => h)).less (by omega)
    · exact (HN1.out.2.kept fA3 (fun _ _ _ h => h)).less (by omega)
    · exact (HN2.out.2.kept fB3 (fun _ _ _ h => h)).less (by omega)
    · exact (HR5.out.kept ((Fr.refl (fun _ => False) _).alloc _) (fun _ _ _ h => h)).less (by omega)

end Go.Proofs.Ytmfpoabhmpljgaa
