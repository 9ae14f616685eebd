/- The last step that is remembered. -/
import Derived.Test.YtpblenebmjmijaaDc
import Derived.Laws.ResultCell
import Derived.Laws.Rows
namespace Go.Proofs.Ytpblenebmjmijaa
set_option maxRecDepth 100000
open Go.RowKit

/-- What a function gives back whose first result stands in a variable's block. -/
theorem results_box2 {P : Program} {fn : Func} {p u : Tmp} {ty : TypeId} (h : fn.results = #[.cell p ty, .tmp u]) (tmps : Array Value) (w : World) (g : Nat) (t : TypeId) (cs : Array Value) (fr : Nat × Nat) (d : TypeDesc)
    (hp : tmps.getD p undef = .pointer (some ⟨g, 0, none⟩)) (hg : w.heap[g]? = some (.cells cs t fr))
    (hu : P.underlying ty = some d) (hd : (match d with | .struct _ | .array _ _ => true | _ => false) = true) (hi : (P.info? ty).map (·.size) = some cs.size) :
    (results fn tmps).run P w = .ok (.tuple #[.agg cs, tmps.getD u undef]) w := by
  rw [results_cell_tmp h]
  simp [hp, asAddr, run_loadVar_row w g t ty cs fr d hg hu hd hi, Result.andThen]

set_option maxHeartbeats 1000000 in
theorem lastStep_none (base d : Nat) (pv sv : Value) (ps : List Value) (w : World) (h : DocAt w base d pv sv ps []) :
    Calls Try.prog 34 #[.pointer (some ⟨d, 0, none⟩)] w fun e w' => e = .returned (.tuple #[.agg #[.nilFunc], .bool false]) ∧ Fr (fun _ => False) w w' := by
  obtain ⟨ao, cap, hs⟩ := own_slice h.st
  subst hs
  have hdl : d < w.heap.size := h.lt
  obtain ⟨e0, e1, ef⟩ := cell_of_two h.blk
  clear h
  have e1' : w.cell? ⟨d, 1, none⟩ = some (.slice ao 0 cap) := e1
  clear e1
  go_enter Try.func34, Try.ntmps34
  go_wp2
  refine bodyPost_ret (results_box2 rfl _ _ w.heap.size 63 _ (0, 0) _ rfl (heap_alloc_new w _) Try.underlying63 rfl (by kernel_rfl)) rfl ?_
  exact ⟨rfl, (Fr.refl _ _).alloc _⟩
/-- A document behind its last step's going. -/
theorem DocAt.unstepped {w : World} {base d g n cap : Nat} {pv : Value} {ps ss : List Value} {f u : Value} (h : DocAt w base d pv (.slice (some ⟨g, 0, none⟩) (n + 1) cap) ps (ss ++ [f])) (hn : n = ss.length) :
    DocAt ((w.setCell ⟨g, n, none⟩ u).setCell ⟨d, 1, none⟩ (.slice (some ⟨g, 0, none⟩) n cap)) base d pv (.slice (some ⟨g, 0, none⟩) n cap) ps ss := by
  subst hn
  have hne : g ≠ d := fun e => row_ne h.st h.blk (by decide) (by rw [e]; rfl)
  have hst := h.st
  rw [show (ss ++ [f]).length = ss.length + 1 by simp] at hst
  have hb : (w.setCell ⟨g, ss.length, none⟩ u).heap[d]? = some (.cells #[pv, .slice (some ⟨g, 0, none⟩) (ss.length + 1) cap] 51 (0, 0)) := by
    rw [Below.heap_setCell _ _ _ _ (by exact fun e => hne e.symm)]; exact h.blk
  have f1 : Fr (fun k => k = g) w (w.setCell ⟨g, ss.length, none⟩ u) := (Fr.refl (fun k => k = g) w).setCell (p := ⟨g, ss.length, none⟩) (fun _ => rfl) _
  have f2 : ∀ w1 : World, Fr (fun k => k = d) w1 (w1.setCell ⟨d, 1, none⟩ (.slice (some ⟨g, 0, none⟩) ss.length cap)) := fun w1 => (Fr.refl (fun k => k = d) w1).setCell (p := ⟨d, 1, none⟩) (fun _ => rfl) _
  refine ⟨?_, h.bas, row_kept (row_kept h.pg f1 (fun k hk e => ?_)) (f2 _) (fun k hk e => by subst e; exact row_ne h.pg h.blk (by decide) hk), row_kept (row_dropped hst) (f2 _) (fun k hk e => ?_)⟩
  · simp [World.setCell, Array.getElem?_modify] at hb ⊢
    simp [hb]
  · subst e
    rcases rows_ne h.pg h.st (by decide) with h1 | h1
    · rw [h1] at hk; cases hk
    · exact h1 hk
  · simp [Value.ownBlock] at hk; omega

set_option maxHeartbeats 1000000 in
theorem lastStep_some (base d : Nat) (pv sv : Value) (ps ss : List Value) (fn : Fn) (caps : Array Value) (w : World) (h : DocAt w base d pv sv ps (ss ++ [.func fn #[] caps])) (hl : ss.length < 64) :
    Calls Try.prog 34 #[.pointer (some ⟨d, 0, none⟩)] w fun e w' => e = .returned (.tuple #[.agg #[.func fn #[] caps], .bool true]) ∧ ∃ sv', DocAt w' base d pv sv' ps ss ∧ Fr (fun k => k = d ∨ sv.ownBlock = some k) w w' ∧ sv'.ownBlock = sv.ownBlock := by
  have hdl : d < w.heap.size := h.lt
  have HD : Hid (DocAt w base d pv sv ps (ss ++ [.func fn #[] caps])) := h
  obtain ⟨g, cap, rfl, hbg, hgl⟩ := h.st.form (by simp)
  have hne : g ≠ d := fun e => row_ne h.st h.blk (by decide) (by rw [e]; rfl)
  obtain ⟨e0, e1, ef⟩ := cell_of_two h.blk
  have hn : (ss ++ [Value.func fn #[] caps]).length = ss.length + 1 := by simp
  have hst := h.st
  rw [hn] at hst e1
  have hc := hst.cellAt ss.length (by omega)
  rw [List.getElem?_append_right (Nat.le_refl _), Nat.sub_self] at hc
  have hc' : w.cell? ⟨g, ss.length, none⟩ = some (.func fn #[] caps) := hc
  have HR : Hid (w.ownsRow base 63 1 (.slice (some ⟨g, 0, none⟩) (ss.length + 1) cap) (ss.length + 1) (ss ++ [.func fn #[] caps])) := hst
  clear h hc hst hn
  generalize hN : ss.length = n at *
  have HN : Hid (n = ss.length) := hN.symm
  have hlen : (ss ++ [Value.func fn #[] caps]).length = n + 1 := by simp [hN]
  rw [hlen] at HD ⊢
  clear hN hlen
  have hw : wrap64 (n : Int) = n := by unfold wrap64; omega
  go_enter Try.func34, Try.ntmps34
  go_wp2_with fail
  go_region
  go_wp2_with fail
  refine (without_steps base n g cap ss (.func fn #[] caps) _ ((HR.out.alloc _).alloc _).drew).mono ?_
  rintro e w2 ⟨rfl, rfl⟩
  go_wp2_with fail
  refine bodyPost_ret (results_box2 rfl _ _ w.heap.size 63 #[.func fn #[] caps] (0, 0) _ rfl ?_ Try.underlying63 rfl (by kernel_rfl)) rfl ?_
  · have hsz : ((w.setCell ⟨g, n, none⟩ .nilFunc).setCell ⟨d, 1, none⟩ (.slice (some ⟨g, 0, none⟩) n cap)).heap.size = w.heap.size := by simp [World.setCell]
    have := heap_alloc2_old ((w.setCell ⟨g, n, none⟩ .nilFunc).setCell ⟨d, 1, none⟩ (.slice (some ⟨g, 0, none⟩) n cap)) (.cells #[.func fn #[] caps] 63) (.cells #[.func fn #[] caps] 63)
    rw [hsz] at this
    exact this
  · have hA := HD.out.unstepped (u := .nilFunc) HN.out
    refine ⟨rfl, _, hA.kept (S := fun _ => False) ((((Fr.refl _ _).alloc _).alloc _).drew) (fun h => h) (fun _ _ h => h) (fun _ _ h => h), ?_, rfl⟩
    refine ((((Fr.setCell (Fr.setCell (Fr.refl _ w) (p := ⟨g, n, none⟩) ?_ _) (p := ⟨d, 1, none⟩) ?_ _).alloc _).alloc _).drew)
    · exact fun _ => Or.inr rfl
    · exact fun _ => Or.inl rfl
end Go.Proofs.Ytpblenebmjmijaa
