/- A document in memory; what is remembered. -/
import Derived.Test.YtpblenebmjmijaaEq
import Derived.Test.YtpblenebmjmijaaFill
import Derived.Test.YtpblenebmjmijaaCrop
import Derived.Lib.SliceRun
import Derived.Deep.AppendLies
import Derived.Deep.RegionLaw
import Derived.Laws.EntriesVeiled
import Derived.Deep.Light
namespace Go.Proofs.Ytpblenebmjmijaa
set_option maxRecDepth 100000
open Go.RowKit

theorem Try.infoPtr : (Try.prog.info? 57).map (fun i => (i.zero, i.size, i.bytes)) = some (some (.pointer none), 1, 8) := by kernel_rfl
theorem Try.infoStep : (Try.prog.info? 63).map (fun i => (i.zero, i.size, i.bytes)) = some (some (.agg #[.nilFunc]), 1, 8) := by kernel_rfl
/-- A document: its block, its rows of pages and of steps. -/
structure DocAt (w : World) (base d : Nat) (pv sv : Value) (ps ss : List Value) : Prop where
  blk : w.heap[d]? = some (.cells #[pv, sv] 51 (0, 0))
  bas : base ≤ d
  pg : w.ownsRow base 57 1 pv ps.length ps
  st : w.ownsRow base 63 1 sv ss.length ss
theorem DocAt.lt {w : World} {base d : Nat} {pv sv : Value} {ps ss : List Value} (h : DocAt w base d pv sv ps ss) : d < w.heap.size := lt_of_block h.blk
theorem cell_of_two {w : World} {b : Nat} {x y : Value} {t : TypeId} (h : w.heap[b]? = some (.cells #[x, y] t (0, 0))) :
    w.cell? ⟨b, 0, none⟩ = some x ∧ w.cell? ⟨b, 1, none⟩ = some y ∧ ∀ j, w.frozen? ⟨b, j, none⟩ = false := by
  refine ⟨?_, ?_, fun j => ?_⟩ <;> simp [World.cell?, World.frozen?, h]
/-- A row is another block than the document's own. -/
theorem row_ne {w : World} {b d e s n : Nat} {v : Value} {xs : List Value} {cs : Array Value} {t : TypeId} (h : w.ownsRow b e s v n xs) (hb : w.heap[d]? = some (.cells cs t (0, 0))) (he : t ≠ e) : v.ownBlock ≠ some d := by
  intro hv
  rcases h.2 with ⟨rfl, _⟩ | ⟨g1, c1, cur, rfl, _, hg1, _⟩
  · simp [Value.ownBlock] at hv
  · simp [Value.ownBlock] at hv
    subst hv
    rw [hg1] at hb
    simp only [Option.some.injEq, Obj.cells.injEq] at hb
    exact he hb.2.1.symm
theorem own_slice {w : World} {b e s n : Nat} {v : Value} {xs : List Value} (h : w.ownsRow b e s v n xs) : ∃ ao cap, v = .slice ao n cap := by
  rcases h.2 with ⟨rfl, hn⟩ | ⟨g, cap, cur, rfl, _⟩
  · exact ⟨none, 0, by rw [hn]⟩
  · exact ⟨_, _, rfl⟩
theorem rows_ne {w : World} {base base' e e' s s' n n' : Nat} {v v' : Value} {xs ys : List Value} (h : w.ownsRow base e s v n xs) (h' : w.ownsRow base' e' s' v' n' ys) (he : e ≠ e') : v.ownBlock = none ∨ v.ownBlock ≠ v'.ownBlock := by
  rcases h'.2 with ⟨rfl, _⟩ | ⟨g2, c2, cur2, rfl, _, hg2, _⟩
  · cases hv : v.ownBlock with
    | none => exact Or.inl rfl
    | some g => exact Or.inr (by simp [Value.ownBlock])
  · exact Or.inr (row_ne h hg2 (fun e2 => he e2.symm))
theorem DocAt.kept {S : Nat → Prop} {w w' : World} {base d : Nat} {pv sv : Value} {ps ss : List Value} (h : DocAt w base d pv sv ps ss) (f : Fr S w w') (h1 : ¬ S d) (h2 : ∀ k, pv.ownBlock = some k → ¬ S k) (h3 : ∀ k, sv.ownBlock = some k → ¬ S k) : DocAt w' base d pv sv ps ss :=
  ⟨(f.block _ h.lt h1).trans h.blk, h.bas, row_kept h.pg f h2, row_kept h.st f h3⟩
/-- The blocks that are a document's. -/
def DocOf (d : Nat) (pv sv : Value) (k : Nat) : Prop := k = d ∨ pv.ownBlock = some k ∨ sv.ownBlock = some k
theorem DocAt.stepped {w w1 : World} {base d n g' cap' : Nat} {pv sv : Value} {ps ss : List Value} {f : Value} (h : DocAt w base d pv sv ps ss) (hn : n = ss.length) (ho : w1.ownsRow 0 63 1 (.slice (some ⟨g', 0, none⟩) (n + 1) cap') (n + 1) (ss ++ [f])) (hf : Fr (fun k => sv.ownBlock = some k) w w1) (hat : sv.ownBlock = some g' ∨ w.heap.size ≤ g') :
    DocAt (w1.setCell ⟨d, 1, none⟩ (.slice (some ⟨g', 0, none⟩) (n + 1) cap')) base d pv (.slice (some ⟨g', 0, none⟩) (n + 1) cap') ps (ss ++ [f]) ∧ Fr (fun k => k = d ∨ sv.ownBlock = some k) w (w1.setCell ⟨d, 1, none⟩ (.slice (some ⟨g', 0, none⟩) (n + 1) cap')) := by
  subst hn
  have hne := row_ne h.st h.blk (by decide)
  have hb1 : w1.heap[d]? = some (.cells #[pv, sv] 51 (0, 0)) := (hf.block _ h.lt (fun e => hne e)).trans h.blk
  have hbl : base ≤ w.heap.size := Nat.le_trans h.bas (Nat.le_of_lt h.lt)
  have hset : Fr (fun k => k = d) w1 (w1.setCell ⟨d, 1, none⟩ (.slice (some ⟨g', 0, none⟩) (ss.length + 1) cap')) := (Fr.refl (fun k => k = d) w1).setCell (p := ⟨d, 1, none⟩) (fun _ => rfl) _
  have hgd : g' ≠ d := fun e => by
    subst e
    rcases hat with e | e
    · exact hne e
    · have := h.lt; omega
  refine ⟨⟨?_, h.bas, ?_, ?_⟩, (hf.mono (fun _ _ e => Or.inr e)).trans hset (fun _ _ e => Or.inl e)⟩
  · simp [World.setCell, Array.getElem?_modify, hb1]
  · exact row_kept (row_kept h.pg hf (fun k hk e => by
      rcases rows_ne h.pg h.st (by decide) with h1 | h1
      · rw [h1] at hk; cases hk
      · exact h1 (hk.trans e.symm))) hset (fun k hk e => by subst e; exact row_ne h.pg h.blk (by decide) hk)
  · rw [List.length_append, List.length_singleton]
    refine row_kept (ownsRow_base ho (fun k hk => ?_)) hset (fun k hk e => ?_)
    · simp [Value.ownBlock] at hk
      subst hk
      rcases hat with e | e
      · exact (h.st.lt _ e).1
      · omega
    · simp [Value.ownBlock] at hk
      omega

theorem cell_one_new (w : World) (v : Value) (t : TypeId) : ∀ (j : Nat) (u : Value), [v][j]? = some u → (w.alloc (.cells #[v] t)).cell? (Addr.add ⟨w.heap.size, 0, none⟩ j) = some u := fun j u hu => by
  have hb := heap_alloc_new w (.cells #[v] t)
  match j, hu with
  | 0, hu => cases hu; show (w.alloc _).cell? ⟨w.heap.size, 0, none⟩ = _; unfold World.cell?; simp only [hb]; rfl
  | j + 1, hu => simp at hu

set_option maxHeartbeats 4000000 in
theorem remember_room (base d : Nat) (pv sv : Value) (ps ss : List Value) (fn : Fn) (caps : Array Value) (w : World) (h : DocAt w base d pv sv ps ss) (hl : ss.length < 64) :
    Calls Try.prog 18 #[.pointer (some ⟨d, 0, none⟩), .agg #[.func fn #[] caps]] w fun e w' => e = .returned (.tuple #[]) ∧ ∃ sv', DocAt w' base d pv sv' ps (ss ++ [.func fn #[] caps]) ∧ Fr (fun k => k = d ∨ sv.ownBlock = some k) w w' ∧ (∀ k, sv'.ownBlock = some k → sv.ownBlock = some k ∨ w.heap.size ≤ k) := by
  obtain ⟨i0, hi, hz0, hz1, hz2⟩ := info_parts Try.infoStep
  obtain ⟨ao, cap, rfl⟩ := own_slice h.st
  obtain ⟨n, Hn⟩ : ∃ n, Hid (n = ss.length) := ⟨_, rfl⟩
  have HD : Hid (DocAt w base d pv (.slice ao ss.length cap) ps ss) := h
  obtain ⟨wX, HX⟩ : ∃ wX, Hid (wX = w.alloc (.cells #[.func fn #[] caps] 63)) := ⟨_, rfl⟩
  have HA : Hid (Fr (fun _ => False) w wX) := by rw [HX.out]; exact (Fr.refl _ _).alloc _
  have HDX : Hid (DocAt wX base d pv (.slice ao n cap) ps ss) := by rw [Hn.out]; exact h.kept HA.out (fun h => h) (fun _ _ h => h) (fun _ _ h => h)
  have hbox : wX.cell? ⟨w.heap.size, 0, none⟩ = some (.func fn #[] caps) := by
    rw [HX.out]
    unfold World.cell?
    simp only [heap_alloc_new w (.cells #[.func fn #[] caps] 63)]
    rfl
  have hne : (Value.slice ao n cap).ownBlock ≠ some d := row_ne HDX.out.st HDX.out.blk (by decide)
  have hl' : n < 64 := by rw [Hn.out]; exact hl
  clear h hl
  obtain ⟨e0, e1, ef⟩ := cell_of_two HDX.out.blk
  have hwx := HX.out
  have HW : Hid (wX.ownsRow 0 63 1 (.slice ao n cap) n ss) := by
    have := ownsRow_base (b' := 0) HDX.out.st (fun _ _ => Nat.zero_le _)
    rw [← Hn.out] at this
    exact this
  have hdl : d < wX.heap.size := HDX.out.lt
  have hwl : wX.heap.size = w.heap.size + 1 := by rw [HX.out, World.size_alloc]
  have HBN : Hid ((Value.slice ao n cap).ownBlock ≠ some w.heap.size) := fun e => by
    have := (HD.out.st.lt w.heap.size (by rw [← Hn.out]; exact e)).2
    omega
  have KC : Hid (∀ (w1 : World), (wX.alloc (.cells #[.func fn #[] caps] 63)).drew.grownBy w1 (Value.slice ao n cap).ownBlock → w1.cell? ⟨d, 1, none⟩ = some (.slice ao n cap) ∧ w1.frozen? ⟨d, 1, none⟩ = false) := by
    intro w1 hgrow
    have f : Fr (fun k => (Value.slice ao n cap).ownBlock = some k) wX w1 := (((Fr.refl _ _).alloc _).drew).grown hgrow (fun k hk _ => hk)
    have hb := (f.block _ hdl hne).trans HDX.out.blk
    obtain ⟨_, a1, a2⟩ := cell_of_two hb
    exact ⟨a1, a2 1⟩
  have d64 : ((n : Int) == 64) = false := by rw [beq_eq_false_iff_ne]; omega
  rw [← Hn.out]
  have e1' := e1
  rw [hwx] at e1'
  clear hwx
  go_enter Try.func18, Try.ntmps18
  go_wp2_with fail
  rw [← HX.out]
  clear e1' hwl
  go_region_law ((refine step_append_lies _ (by rfl) _ _ _ (by rfl) 0 63 i0 (.agg #[.nilFunc]) 1 8 Try.underlying49 hi hz0 hz1 hz2 rfl (by decide) (.slice ao n cap) n _ (by rfl) (HW.out.alloc _) ⟨wX.heap.size, 0, none⟩ 1 1 [.func fn #[] caps] (by rfl) rfl (cell_one_new wX _ 63) (by intro u hu; simp at hu; subst hu; rfl) (by decide) (by unfold maxLen; omega) (by omega) (Nat.zero_le _) (wX.heap.size + 1) (by simp) ?_; intro g' cap' w1 hown1 hgrow hat hlt; obtain ⟨k1, kf1⟩ := KC.out w1 hgrow; have HG : Hid ((wX.alloc (.cells #[.func fn #[] caps] 63)).drew.grownBy w1 (Value.slice ao n cap).ownBlock) := hgrow; have HN1 : Hid (w1.ownsRow 0 63 1 (.slice (some ⟨g', 0, none⟩) (n + 1) cap') (n + 1) (ss ++ [.func fn #[] caps])) := hown1; have HAT : Hid ((Value.slice ao n cap).ownBlock = some g' ∨ g' = wX.heap.size + 1) := hat; clear hgrow hown1 hat))
  all_goals
    go_wp2_with fail
    go_end0
    have hs := HDX.out.stepped Hn.out HN1.out ((((Fr.refl _ wX).alloc _).drew).grown HG.out (fun k hk _ => hk)) (HAT.out.imp id (fun e => by omega))
    have hsz := HA.out.size
    refine ⟨rfl, _, hs.1, (HA.out.mono (fun _ _ h => h.elim)).trans hs.2 (fun _ _ h => h), fun k hk => ?_⟩
    simp only [Value.ownBlock, Option.some.injEq] at hk
    subst hk
    rcases HAT.out with e | e
    · exact Or.inl e
    · exact Or.inr (by omega)
end Go.Proofs.Ytpblenebmjmijaa
