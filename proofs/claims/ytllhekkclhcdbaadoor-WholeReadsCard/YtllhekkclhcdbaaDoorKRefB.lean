/- The document's own answer: 'begun', 'New'. -/
import Derived.Test.YtllhekkclhcdbaaDoorKRefT
import Derived.Test.YtllhekkclhcdbaaDoorK3
namespace Go.Proofs.YtllhekkclhcdbaaDoor
open Go.RowKit

theorem made_row (X : World) (n g : Nat) (hg : X.heap.size = g) (hn : n ≤ 131072) : (X.alloc (.cells (madeCells #[.int .i64 0] n) 3)).ownsRow 0 3 1 (.slice (some ⟨g, 0, none⟩) n n) n (intCells (List.replicate n 0)) := by
  subst hg
  have e : intCells (List.replicate n 0) = (madeCells #[Value.int .i64 0] n).toList := by rw [toList_madeCells_one]; simp [intCells]
  rw [e]
  exact World.ownsRow_lit (base := 0) (e := 3) (size := 1) X (madeCells #[.int .i64 0] n) n (Nat.zero_le _) (by unfold maxLen; omega) (by rw [← Array.length_toList, toList_madeCells_one]; simp only [List.length_replicate]; exact (Nat.mul_one n).symm)
theorem Fr.undrew {S : Nat → Prop} {a b : World} (h : Fr S a.drew b) : Fr S a b := ⟨h.os, h.tape, h.output, h.size, h.block⟩
theorem four_set {w1 : World} {b : Nat} {t : TypeId} {y0 y1 y2 y3 : Value} (h : w1.heap[b]? = some (.cells #[y0, y1, y2, y3] t (0, 0))) (a0 a1 a2 a3 : Value) :
    ((((w1.setCell ⟨b, 0, none⟩ a0).setCell ⟨b, 1, none⟩ a1).setCell ⟨b, 2, none⟩ a2).setCell ⟨b, 3, none⟩ a3).heap[b]? = some (.cells #[a0, a1, a2, a3] t (0, 0)) :=
  (seven_set (seven_set (seven_set (seven_set h)))).trans rfl
theorem four_fr (w1 : World) (b : Nat) (a0 a1 a2 a3 : Value) : Fr (fun k => k = b) w1 ((((w1.setCell ⟨b, 0, none⟩ a0).setCell ⟨b, 1, none⟩ a1).setCell ⟨b, 2, none⟩ a2).setCell ⟨b, 3, none⟩ a3) :=
  Fr.setCell (p := ⟨b, 3, none⟩) (Fr.setCell (p := ⟨b, 2, none⟩) (Fr.setCell (p := ⟨b, 1, none⟩) (Fr.set1 _ _ _ _) (fun _ => rfl) _) (fun _ => rfl) _) (fun _ => rfl) _

/-- What 'begun' leaves. -/
structure Begun (w w' : World) (gt ct gs gb n : Nat) : Prop where
  tab : w'.ownsRow 0 117 4 (.slice (some ⟨gt, 0, none⟩) 47 ct) 47 (tabCells 47)
  st : w'.ownsRow 0 3 1 (.slice (some ⟨gs, 0, none⟩) n n) n (intCells (List.replicate n 0))
  bt : w'.ownsRow 0 3 1 (.slice (some ⟨gb, 0, none⟩) n n) n (intCells (List.replicate n 0))
  ne : gs ≠ gb
  fr : Fr (fun _ => False) w w'
  new : w.heap.size ≤ gt ∧ w.heap.size ≤ gs ∧ w.heap.size ≤ gb

set_option maxRecDepth 100000 in
set_option maxHeartbeats 4000000 in
theorem begun_at (w : World) (n : Nat) (h1 : 1 ≤ n) (h2 : n ≤ 131072) : Calls Tryd.prog 39 #[.int .i64 n] w fun e w' => ∃ gt ct gs gb, e = .returned (.agg #[.slice (some ⟨gt, 0, none⟩) 47 ct, .slice (some ⟨gs, 0, none⟩) n n, .slice (some ⟨gb, 0, none⟩) n n, .int .i64 0]) ∧ Begun w w' gt ct gs gb n := by
  have HT : Hid (∀ w, Calls Tryd.prog 61 #[] w fun e w' => ∃ g cap, e = .returned (.slice (some ⟨g, 0, none⟩) 47 cap) ∧ w'.ownsRow 0 117 4 (.slice (some ⟨g, 0, none⟩) 47 cap) 47 (tabCells 47) ∧ Fr (fun _ => False) w w' ∧ w.heap.size ≤ g) := rtable_at
  have hmk : ∀ w, (Instr.makeSlice 64 (.int .i64 (n : Int)) (.int .i64 (n : Int))).run Tryd.prog w = .ok (.slice (some ⟨w.heap.size, 0, none⟩) n n) (w.alloc (.cells (madeCells #[.int .i64 0] n) 3)) := run_make_row' 64 3 (.int .i64 0) 8 Tryd.underlying64 Tryd.info3 rfl .i64 .i64 n (by omega) (by omega)
  go_enter Tryd.func39, Tryd.ntmps39
  go_wp2_with fail
  generalize hR : World.alloc _ _ = wR
  have hb : wR.heap[w.heap.size]? = some (.cells #[.slice none 0 0, .slice none 0 0, .slice none 0 0, .int .i64 0] 66 (0, 0)) := by rw [← hR]; exact heap_alloc_new _ _
  have c0 : wR.cell? ⟨w.heap.size, 0, none⟩ = some (.slice none 0 0) := by simp [World.cell?, hb]
  have c1 : wR.cell? ⟨w.heap.size, 1, none⟩ = some (.slice none 0 0) := by simp [World.cell?, hb]
  have c2 : wR.cell? ⟨w.heap.size, 2, none⟩ = some (.slice none 0 0) := by simp [World.cell?, hb]
  have c3 : wR.cell? ⟨w.heap.size, 3, none⟩ = some (.int .i64 0) := by simp [World.cell?, hb]
  have cf : ∀ j, wR.frozen? ⟨w.heap.size, j, none⟩ = false := by intro j; simp [World.frozen?, hb]
  have hbl : w.heap.size < wR.heap.size := lt_of_block hb
  have HRF : Hid (Fr (fun _ => False) w wR) := by rw [← hR]; exact (Fr.refl _ _).alloc _
  have HRB : Hid (wR.heap[w.heap.size]? = some (.cells #[.slice none 0 0, .slice none 0 0, .slice none 0 0, .int .i64 0] 66 (0, 0))) := hb
  clear hR hb
  go_region_with (first | (go_at_call 61; refine (HT.out _).mono ?_; rintro e w1 ⟨gt, ct, rfl, hown1, hf1, hg1⟩; have hfw : Fr (fun _ => False) wR w1 := Fr.trans (by repeat (first | with_reducible exact Fr.refl _ _ | with_reducible refine Fr.drew ?_ | with_reducible refine Fr.alloc ?_ _)) hf1 (fun _ _ hh => hh); have d0 := hfw.cell c0 (fun hh => hh); have d1 := hfw.cell c1 (fun hh => hh); have d2 := hfw.cell c2 (fun hh => hh); have d3 := hfw.cell c3 (fun hh => hh); have df0 := hfw.frozen hbl (cf 0) (fun hh => hh); have df1 := hfw.frozen hbl (cf 1) (fun hh => hh); have df2 := hfw.frozen hbl (cf 2) (fun hh => hh); have df3 := hfw.frozen hbl (cf 3) (fun hh => hh); have hbl1 : w.heap.size < w1.heap.size := Nat.lt_of_lt_of_le hbl hfw.size; have HO1 : Hid (w1.ownsRow 0 117 4 (.slice (some ⟨gt, 0, none⟩) 47 ct) 47 (tabCells 47)) := hown1; have HF1 : Hid (Fr (fun _ => False) _ w1) := hf1; have HG1 : Hid (w.heap.size ≤ gt) := Nat.le_trans (Nat.le_trans HRF.out.size (Fr.size (S := fun _ => False) (by repeat (first | with_reducible exact Fr.refl _ _ | with_reducible refine Fr.drew ?_ | with_reducible refine Fr.alloc ?_ _)))) hg1; have HFW : Hid (Fr (fun _ => False) wR w1) := hfw; clear hown1 hf1 hfw hg1))
  all_goals
    have hz1 := HFW.out.size
    have hz0 := HRF.out.size
    have hb1 : w1.heap[w.heap.size]? = some (.cells #[.slice none 0 0, .slice none 0 0, .slice none 0 0, .int .i64 0] 66 (0, 0)) := by rw [HFW.out.block _ hbl (fun hh => hh)]; exact HRB.out
    have HB1 : Hid (w1.heap[w.heap.size]? = some (.cells #[.slice none 0 0, .slice none 0 0, .slice none 0 0, .int .i64 0] 66 (0, 0))) := hb1
    clear hb1
    go_wp2_with fail
  · generalize hV : World.setCell _ _ (.int .i64 0) = V
    have v4 : V.heap[w.heap.size]? = some (.cells #[.slice (some ⟨gt, 0, none⟩) 47 ct, .slice (some ⟨w1.heap.size, 0, none⟩) n n, .slice (some ⟨w1.heap.size + 1, 0, none⟩) n n, .int .i64 0] 66 (0, 0)) := by rw [← hV]; exact four_set HB1.out _ _ _ _
    have vf : Fr (fun k => k = w.heap.size) w1 V := by rw [← hV]; exact four_fr _ _ _ _ _ _
    have vz : V.heap.size = w1.heap.size := by rw [← hV]; simp [World.setCell]
    have f : Fr (fun _ => False) V ((V.alloc (.cells (madeCells #[.int .i64 0] n) 3)).alloc (.cells (madeCells #[.int .i64 0] n) 3)) := ((Fr.refl _ _).alloc _).alloc _
    have h4 : ((V.alloc (.cells (madeCells #[.int .i64 0] n) 3)).alloc (.cells (madeCells #[.int .i64 0] n) 3)).heap[w.heap.size]? = some (.cells #[.slice (some ⟨gt, 0, none⟩) 47 ct, .slice (some ⟨w1.heap.size, 0, none⟩) n n, .slice (some ⟨w1.heap.size + 1, 0, none⟩) n n, .int .i64 0] 66 (0, 0)) := by rw [f.block _ (by omega) (fun hh => hh)]; exact v4
    have r0 : ((V.alloc (.cells (madeCells #[.int .i64 0] n) 3)).alloc (.cells (madeCells #[.int .i64 0] n) 3)).cell? ⟨w.heap.size, 0, none⟩ = some (.slice (some ⟨gt, 0, none⟩) 47 ct) := by simp [World.cell?, h4]
    have r1 : ((V.alloc (.cells (madeCells #[.int .i64 0] n) 3)).alloc (.cells (madeCells #[.int .i64 0] n) 3)).cell? ⟨w.heap.size, 1, none⟩ = some (.slice (some ⟨w1.heap.size, 0, none⟩) n n) := by simp [World.cell?, h4]
    have r2 : ((V.alloc (.cells (madeCells #[.int .i64 0] n) 3)).alloc (.cells (madeCells #[.int .i64 0] n) 3)).cell? ⟨w.heap.size, 2, none⟩ = some (.slice (some ⟨w1.heap.size + 1, 0, none⟩) n n) := by simp [World.cell?, h4]
    have r3 : ((V.alloc (.cells (madeCells #[.int .i64 0] n) 3)).alloc (.cells (madeCells #[.int .i64 0] n) 3)).cell? ⟨w.heap.size, 3, none⟩ = some (.int .i64 0) := by simp [World.cell?, h4]
    have HR0 : Hid (_ = _) := r0
    have HGN : Hid (gt ≠ w.heap.size) := row_nb HO1.out rfl HB1.out (by decide)
    have HBE : Hid (Begun w ((V.alloc (.cells (madeCells #[.int .i64 0] n) 3)).alloc (.cells (madeCells #[.int .i64 0] n) 3)) gt ct (w1.heap.size) (w1.heap.size + 1) n) := by
      have hg := HG1.out
      exact ⟨row_kept1 (row_kept1 HO1.out vf HGN.out) f (fun hh => hh), (made_row V n _ vz h2).alloc _, made_row (V.alloc (.cells (madeCells #[.int .i64 0] n) 3)) n (w1.heap.size + 1) (by simp [vz]) h2, by omega, (HRF.out.trans HFW.out (fun _ _ hh => hh)).trans (vf.trans f (fun _ _ hh => hh.elim)) (fun i hi e => by omega), ⟨hg, by omega, by omega⟩⟩
    clear hV v4 vf f h4
    generalize ((V.alloc (.cells (madeCells #[.int .i64 0] n) 3)).alloc (.cells (madeCells #[.int .i64 0] n) 3)) = Wf at *
    refine bodyPost_ret (v := .agg #[.slice (some ⟨gt, 0, none⟩) 47 ct, .slice (some ⟨w1.heap.size, 0, none⟩) n n, .slice (some ⟨w1.heap.size + 1, 0, none⟩) n n, .int .i64 0]) (by simp [results, Tryd.results39, go_sem, r0, r1, r2, r3]) rfl ?_
    exact ⟨gt, ct, _, _, rfl, HBE.out⟩
  · generalize hV : World.setCell _ _ (.int .i64 0) = V
    have v4 : V.heap[w.heap.size]? = some (.cells #[.slice (some ⟨gt, 0, none⟩) 47 ct, .slice (some ⟨w1.heap.size + 1, 0, none⟩) n n, .slice (some ⟨w1.heap.size, 0, none⟩) n n, .int .i64 0] 66 (0, 0)) := by rw [← hV]; exact four_set HB1.out _ _ _ _
    have vf : Fr (fun k => k = w.heap.size) w1 V := by rw [← hV]; exact four_fr _ _ _ _ _ _
    have vz : V.heap.size = w1.heap.size := by rw [← hV]; simp [World.setCell]
    have f : Fr (fun _ => False) V ((V.alloc (.cells (madeCells #[.int .i64 0] n) 3)).alloc (.cells (madeCells #[.int .i64 0] n) 3)) := ((Fr.refl _ _).alloc _).alloc _
    have h4 : ((V.alloc (.cells (madeCells #[.int .i64 0] n) 3)).alloc (.cells (madeCells #[.int .i64 0] n) 3)).heap[w.heap.size]? = some (.cells #[.slice (some ⟨gt, 0, none⟩) 47 ct, .slice (some ⟨w1.heap.size + 1, 0, none⟩) n n, .slice (some ⟨w1.heap.size, 0, none⟩) n n, .int .i64 0] 66 (0, 0)) := by rw [f.block _ (by omega) (fun hh => hh)]; exact v4
    have r0 : ((V.alloc (.cells (madeCells #[.int .i64 0] n) 3)).alloc (.cells (madeCells #[.int .i64 0] n) 3)).cell? ⟨w.heap.size, 0, none⟩ = some (.slice (some ⟨gt, 0, none⟩) 47 ct) := by simp [World.cell?, h4]
    have r1 : ((V.alloc (.cells (madeCells #[.int .i64 0] n) 3)).alloc (.cells (madeCells #[.int .i64 0] n) 3)).cell? ⟨w.heap.size, 1, none⟩ = some (.slice (some ⟨w1.heap.size + 1, 0, none⟩) n n) := by simp [World.cell?, h4]
    have r2 : ((V.alloc (.cells (madeCells #[.int .i64 0] n) 3)).alloc (.cells (madeCells #[.int .i64 0] n) 3)).cell? ⟨w.heap.size, 2, none⟩ = some (.slice (some ⟨w1.heap.size, 0, none⟩) n n) := by simp [World.cell?, h4]
    have r3 : ((V.alloc (.cells (madeCells #[.int .i64 0] n) 3)).alloc (.cells (madeCells #[.int .i64 0] n) 3)).cell? ⟨w.heap.size, 3, none⟩ = some (.int .i64 0) := by simp [World.cell?, h4]
    have HR0 : Hid (_ = _) := r0
    have HGN : Hid (gt ≠ w.heap.size) := row_nb HO1.out rfl HB1.out (by decide)
    have HBE : Hid (Begun w ((V.alloc (.cells (madeCells #[.int .i64 0] n) 3)).alloc (.cells (madeCells #[.int .i64 0] n) 3)) gt ct (w1.heap.size + 1) (w1.heap.size) n) := by
      have hg := HG1.out
      exact ⟨row_kept1 (row_kept1 HO1.out vf HGN.out) f (fun hh => hh), made_row (V.alloc (.cells (madeCells #[.int .i64 0] n) 3)) n (w1.heap.size + 1) (by simp [vz]) h2, (made_row V n _ vz h2).alloc _, by omega, (HRF.out.trans HFW.out (fun _ _ hh => hh)).trans (vf.trans f (fun _ _ hh => hh.elim)) (fun i hi e => by omega), ⟨hg, by omega, by omega⟩⟩
    clear hV v4 vf f h4
    generalize ((V.alloc (.cells (madeCells #[.int .i64 0] n) 3)).alloc (.cells (madeCells #[.int .i64 0] n) 3)) = Wf at *
    refine bodyPost_ret (v := .agg #[.slice (some ⟨gt, 0, none⟩) 47 ct, .slice (some ⟨w1.heap.size + 1, 0, none⟩) n n, .slice (some ⟨w1.heap.size, 0, none⟩) n n, .int .i64 0]) (by simp [results, Tryd.results39, go_sem, r0, r1, r2, r3]) rfl ?_
    exact ⟨gt, ct, _, _, rfl, HBE.out⟩
  · generalize hV : World.setCell _ _ (.int .i64 0) = V
    have v4 : V.heap[w.heap.size]? = some (.cells #[.slice (some ⟨gt, 0, none⟩) 47 ct, .slice (some ⟨wR.heap.size, 0, none⟩) n n, .slice (some ⟨w1.heap.size, 0, none⟩) n n, .int .i64 0] 66 (0, 0)) := by rw [← hV]; exact four_set HB1.out _ _ _ _
    have vf : Fr (fun k => k = w.heap.size) w1 V := by rw [← hV]; exact four_fr _ _ _ _ _ _
    have vz : V.heap.size = w1.heap.size := by rw [← hV]; simp [World.setCell]
    have hzf : wR.heap.size + 1 ≤ w1.heap.size := by have := HF1.out.size; simpa using this
    have f : Fr (fun _ => False) V (V.alloc (.cells (madeCells #[.int .i64 0] n) 3)) := (Fr.refl _ _).alloc _
    have h4 : (V.alloc (.cells (madeCells #[.int .i64 0] n) 3)).heap[w.heap.size]? = some (.cells #[.slice (some ⟨gt, 0, none⟩) 47 ct, .slice (some ⟨wR.heap.size, 0, none⟩) n n, .slice (some ⟨w1.heap.size, 0, none⟩) n n, .int .i64 0] 66 (0, 0)) := by rw [f.block _ (by omega) (fun hh => hh)]; exact v4
    have r0 : (V.alloc (.cells (madeCells #[.int .i64 0] n) 3)).cell? ⟨w.heap.size, 0, none⟩ = some (.slice (some ⟨gt, 0, none⟩) 47 ct) := by simp [World.cell?, h4]
    have r1 : (V.alloc (.cells (madeCells #[.int .i64 0] n) 3)).cell? ⟨w.heap.size, 1, none⟩ = some (.slice (some ⟨wR.heap.size, 0, none⟩) n n) := by simp [World.cell?, h4]
    have r2 : (V.alloc (.cells (madeCells #[.int .i64 0] n) 3)).cell? ⟨w.heap.size, 2, none⟩ = some (.slice (some ⟨w1.heap.size, 0, none⟩) n n) := by simp [World.cell?, h4]
    have r3 : (V.alloc (.cells (madeCells #[.int .i64 0] n) 3)).cell? ⟨w.heap.size, 3, none⟩ = some (.int .i64 0) := by simp [World.cell?, h4]
    have HR0 : Hid (_ = _) := r0
    have HGN : Hid (gt ≠ w.heap.size) := row_nb HO1.out rfl HB1.out (by decide)
    have HBE : Hid (Begun w (V.alloc (.cells (madeCells #[.int .i64 0] n) 3)) gt ct (wR.heap.size) (w1.heap.size) n) := by
      have hg := HG1.out
      exact ⟨row_kept1 (row_kept1 HO1.out vf HGN.out) f (fun hh => hh), row_kept1 (row_kept1 (row_kept1 (S := fun _ => False) (made_row wR n _ rfl h2) HF1.out.undrew (fun hh => hh)) vf (by omega)) f (fun hh => hh), made_row V n _ vz h2, by omega, (HRF.out.trans HFW.out (fun _ _ hh => hh)).trans (vf.trans f (fun _ _ hh => hh.elim)) (fun i hi e => by omega), ⟨hg, by omega, by omega⟩⟩
    clear hV v4 vf f h4
    generalize (V.alloc (.cells (madeCells #[.int .i64 0] n) 3)) = Wf at *
    refine bodyPost_ret (v := .agg #[.slice (some ⟨gt, 0, none⟩) 47 ct, .slice (some ⟨wR.heap.size, 0, none⟩) n n, .slice (some ⟨w1.heap.size, 0, none⟩) n n, .int .i64 0]) (by simp [results, Tryd.results39, go_sem, r0, r1, r2, r3]) rfl ?_
    exact ⟨gt, ct, _, _, rfl, HBE.out⟩
  · generalize hV : World.setCell _ _ (.int .i64 0) = V
    have v4 : V.heap[w.heap.size]? = some (.cells #[.slice (some ⟨gt, 0, none⟩) 47 ct, .slice (some ⟨wR.heap.size, 0, none⟩) n n, .slice (some ⟨wR.heap.size + 1, 0, none⟩) n n, .int .i64 0] 66 (0, 0)) := by rw [← hV]; exact four_set HB1.out _ _ _ _
    have vf : Fr (fun k => k = w.heap.size) w1 V := by rw [← hV]; exact four_fr _ _ _ _ _ _
    have vz : V.heap.size = w1.heap.size := by rw [← hV]; simp [World.setCell]
    have f : Fr (fun _ => False) V V := Fr.refl _ _
    have h4 : V.heap[w.heap.size]? = some (.cells #[.slice (some ⟨gt, 0, none⟩) 47 ct, .slice (some ⟨wR.heap.size, 0, none⟩) n n, .slice (some ⟨wR.heap.size + 1, 0, none⟩) n n, .int .i64 0] 66 (0, 0)) := by rw [f.block _ (by omega) (fun hh => hh)]; exact v4
    have r0 : V.cell? ⟨w.heap.size, 0, none⟩ = some (.slice (some ⟨gt, 0, none⟩) 47 ct) := by simp [World.cell?, h4]
    have r1 : V.cell? ⟨w.heap.size, 1, none⟩ = some (.slice (some ⟨wR.heap.size, 0, none⟩) n n) := by simp [World.cell?, h4]
    have r2 : V.cell? ⟨w.heap.size, 2, none⟩ = some (.slice (some ⟨wR.heap.size + 1, 0, none⟩) n n) := by simp [World.cell?, h4]
    have r3 : V.cell? ⟨w.heap.size, 3, none⟩ = some (.int .i64 0) := by simp [World.cell?, h4]
    have HR0 : Hid (_ = _) := r0
    have HGN : Hid (gt ≠ w.heap.size) := row_nb HO1.out rfl HB1.out (by decide)
    have HBE : Hid (Begun w V gt ct (wR.heap.size) (wR.heap.size + 1) n) := by
      have hg := HG1.out
      exact ⟨row_kept1 (row_kept1 HO1.out vf HGN.out) f (fun hh => hh), row_kept1 (row_kept1 (row_kept1 (S := fun _ => False) ((made_row wR n _ rfl h2).alloc _) HF1.out.undrew (fun hh => hh)) vf (by omega)) f (fun hh => hh), row_kept1 (row_kept1 (row_kept1 (S := fun _ => False) (made_row (wR.alloc (.cells (madeCells #[.int .i64 0] n) 3)) n (wR.heap.size + 1) (by simp) h2) HF1.out.undrew (fun hh => hh)) vf (by omega)) f (fun hh => hh), by omega, (HRF.out.trans HFW.out (fun _ _ hh => hh)).trans (vf.trans f (fun _ _ hh => hh.elim)) (fun i hi e => by omega), ⟨hg, by omega, by omega⟩⟩
    clear hV v4 vf f h4
    generalize V = Wf at *
    refine bodyPost_ret (v := .agg #[.slice (some ⟨gt, 0, none⟩) 47 ct, .slice (some ⟨wR.heap.size, 0, none⟩) n n, .slice (some ⟨wR.heap.size + 1, 0, none⟩) n n, .int .i64 0]) (by simp [results, Tryd.results39, go_sem, r0, r1, r2, r3]) rfl ?_
    exact ⟨gt, ct, _, _, rfl, HBE.out⟩
  · generalize hV : World.setCell _ _ (.int .i64 0) = V
    have v4 : V.heap[w.heap.size]? = some (.cells #[.slice (some ⟨gt, 0, none⟩) 47 ct, .slice (some ⟨w1.heap.size, 0, none⟩) n n, .slice (some ⟨wR.heap.size, 0, none⟩) n n, .int .i64 0] 66 (0, 0)) := by rw [← hV]; exact four_set HB1.out _ _ _ _
    have vf : Fr (fun k => k = w.heap.size) w1 V := by rw [← hV]; exact four_fr _ _ _ _ _ _
    have vz : V.heap.size = w1.heap.size := by rw [← hV]; simp [World.setCell]
    have hzf : wR.heap.size + 1 ≤ w1.heap.size := by have := HF1.out.size; simpa using this
    have f : Fr (fun _ => False) V (V.alloc (.cells (madeCells #[.int .i64 0] n) 3)) := (Fr.refl _ _).alloc _
    have h4 : (V.alloc (.cells (madeCells #[.int .i64 0] n) 3)).heap[w.heap.size]? = some (.cells #[.slice (some ⟨gt, 0, none⟩) 47 ct, .slice (some ⟨w1.heap.size, 0, none⟩) n n, .slice (some ⟨wR.heap.size, 0, none⟩) n n, .int .i64 0] 66 (0, 0)) := by rw [f.block _ (by omega) (fun hh => hh)]; exact v4
    have r0 : (V.alloc (.cells (madeCells #[.int .i64 0] n) 3)).cell? ⟨w.heap.size, 0, none⟩ = some (.slice (some ⟨gt, 0, none⟩) 47 ct) := by simp [World.cell?, h4]
    have r1 : (V.alloc (.cells (madeCells #[.int .i64 0] n) 3)).cell? ⟨w.heap.size, 1, none⟩ = some (.slice (some ⟨w1.heap.size, 0, none⟩) n n) := by simp [World.cell?, h4]
    have r2 : (V.alloc (.cells (madeCells #[.int .i64 0] n) 3)).cell? ⟨w.heap.size, 2, none⟩ = some (.slice (some ⟨wR.heap.size, 0, none⟩) n n) := by simp [World.cell?, h4]
    have r3 : (V.alloc (.cells (madeCells #[.int .i64 0] n) 3)).cell? ⟨w.heap.size, 3, none⟩ = some (.int .i64 0) := by simp [World.cell?, h4]
    have HR0 : Hid (_ = _) := r0
    have HGN : Hid (gt ≠ w.heap.size) := row_nb HO1.out rfl HB1.out (by decide)
    have HBE : Hid (Begun w (V.alloc (.cells (madeCells #[.int .i64 0] n) 3)) gt ct (w1.heap.size) (wR.heap.size) n) := by
      have hg := HG1.out
      exact ⟨row_kept1 (row_kept1 HO1.out vf HGN.out) f (fun hh => hh), made_row V n _ vz h2, row_kept1 (row_kept1 (row_kept1 (S := fun _ => False) (made_row wR n _ rfl h2) HF1.out.undrew (fun hh => hh)) vf (by omega)) f (fun hh => hh), by omega, (HRF.out.trans HFW.out (fun _ _ hh => hh)).trans (vf.trans f (fun _ _ hh => hh.elim)) (fun i hi e => by omega), ⟨hg, by omega, by omega⟩⟩
    clear hV v4 vf f h4
    generalize (V.alloc (.cells (madeCells #[.int .i64 0] n) 3)) = Wf at *
    refine bodyPost_ret (v := .agg #[.slice (some ⟨gt, 0, none⟩) 47 ct, .slice (some ⟨w1.heap.size, 0, none⟩) n n, .slice (some ⟨wR.heap.size, 0, none⟩) n n, .int .i64 0]) (by simp [results, Tryd.results39, go_sem, r0, r1, r2, r3]) rfl ?_
    exact ⟨gt, ct, _, _, rfl, HBE.out⟩
  · generalize hV : World.setCell _ _ (.int .i64 0) = V
    have v4 : V.heap[w.heap.size]? = some (.cells #[.slice (some ⟨gt, 0, none⟩) 47 ct, .slice (some ⟨wR.heap.size + 1, 0, none⟩) n n, .slice (some ⟨wR.heap.size, 0, none⟩) n n, .int .i64 0] 66 (0, 0)) := by rw [← hV]; exact four_set HB1.out _ _ _ _
    have vf : Fr (fun k => k = w.heap.size) w1 V := by rw [← hV]; exact four_fr _ _ _ _ _ _
    have vz : V.heap.size = w1.heap.size := by rw [← hV]; simp [World.setCell]
    have f : Fr (fun _ => False) V V := Fr.refl _ _
    have h4 : V.heap[w.heap.size]? = some (.cells #[.slice (some ⟨gt, 0, none⟩) 47 ct, .slice (some ⟨wR.heap.size + 1, 0, none⟩) n n, .slice (some ⟨wR.heap.size, 0, none⟩) n n, .int .i64 0] 66 (0, 0)) := by rw [f.block _ (by omega) (fun hh => hh)]; exact v4
    have r0 : V.cell? ⟨w.heap.size, 0, none⟩ = some (.slice (some ⟨gt, 0, none⟩) 47 ct) := by simp [World.cell?, h4]
    have r1 : V.cell? ⟨w.heap.size, 1, none⟩ = some (.slice (some ⟨wR.heap.size + 1, 0, none⟩) n n) := by simp [World.cell?, h4]
    have r2 : V.cell? ⟨w.heap.size, 2, none⟩ = some (.slice (some ⟨wR.heap.size, 0, none⟩) n n) := by simp [World.cell?, h4]
    have r3 : V.cell? ⟨w.heap.size, 3, none⟩ = some (.int .i64 0) := by simp [World.cell?, h4]
    have HR0 : Hid (_ = _) := r0
    have HGN : Hid (gt ≠ w.heap.size) := row_nb HO1.out rfl HB1.out (by decide)
    have HBE : Hid (Begun w V gt ct (wR.heap.size + 1) (wR.heap.size) n) := by
      have hg := HG1.out
      exact ⟨row_kept1 (row_kept1 HO1.out vf HGN.out) f (fun hh => hh), row_kept1 (row_kept1 (row_kept1 (S := fun _ => False) (made_row (wR.alloc (.cells (madeCells #[.int .i64 0] n) 3)) n (wR.heap.size + 1) (by simp) h2) HF1.out.undrew (fun hh => hh)) vf (by omega)) f (fun hh => hh), row_kept1 (row_kept1 (row_kept1 (S := fun _ => False) ((made_row wR n _ rfl h2).alloc _) HF1.out.undrew (fun hh => hh)) vf (by omega)) f (fun hh => hh), by omega, (HRF.out.trans HFW.out (fun _ _ hh => hh)).trans (vf.trans f (fun _ _ hh => hh.elim)) (fun i hi e => by omega), ⟨hg, by omega, by omega⟩⟩
    clear hV v4 vf f h4
    generalize V = Wf at *
    refine bodyPost_ret (v := .agg #[.slice (some ⟨gt, 0, none⟩) 47 ct, .slice (some ⟨wR.heap.size + 1, 0, none⟩) n n, .slice (some ⟨wR.heap.size, 0, none⟩) n n, .int .i64 0]) (by simp [results, Tryd.results39, go_sem, r0, r1, r2, r3]) rfl ?_
    exact ⟨gt, ct, _, _, rfl, HBE.out⟩

end Go.Proofs.YtllhekkclhcdbaaDoor
