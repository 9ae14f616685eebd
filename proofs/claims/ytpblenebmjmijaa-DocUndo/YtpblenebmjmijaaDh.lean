/- 'NewPage'. -/
import Derived.Test.YtpblenebmjmijaaDg
namespace Go.Proofs.Ytpblenebmjmijaa
set_option maxRecDepth 100000
open Go.RowKit

set_option maxHeartbeats 1000000 in
theorem newPage_area (d : Nat) (x y : Int) (w : World) (hx : -9223372036854775808 ≤ x ∧ x ≤ 9223372036854775807) (hy : -9223372036854775808 ≤ y ∧ y ≤ 9223372036854775807) (hs : sizeOK x y = false) :
    Calls Try.prog 8 #[.pointer (some ⟨d, 0, none⟩), .int .i64 x, .int .i64 y] w fun e w' => e = .returned (.tuple #[.int .i64 0, .int .i64 180]) ∧ Fr (fun _ => False) w w' := by
  go_enter Try.func8, Try.ntmps8
  go_wp2_with fail
  refine (dsize_any x y _ hx hy).mono ?_
  rintro e w1 ⟨rfl, rfl⟩
  rw [hs]
  go_wp2_with fail
  go_ret2
  exact ⟨rfl, (Fr.refl _ _).alloc _⟩

set_option maxHeartbeats 1000000 in
theorem newPage_full (base d : Nat) (pv sv : Value) (ps ss : List Value) (x y : Int) (w : World) (h : DocAt w base d pv sv ps ss) (hl : 64 ≤ ps.length) (hx : -9223372036854775808 ≤ x ∧ x ≤ 9223372036854775807) (hy : -9223372036854775808 ≤ y ∧ y ≤ 9223372036854775807) (hs : sizeOK x y = true) :
    Calls Try.prog 8 #[.pointer (some ⟨d, 0, none⟩), .int .i64 x, .int .i64 y] w fun e w' => e = .returned (.tuple #[.int .i64 0, .int .i64 181]) ∧ Fr (fun _ => False) w w' := by
  obtain ⟨ao, cap, rfl⟩ := own_slice h.pg
  obtain ⟨e0, e1, ef⟩ := cell_of_two h.blk
  have hdl := h.lt
  clear h
  generalize ps.length = m at *
  go_enter Try.func8, Try.ntmps8
  go_wp2_with fail
  refine (dsize_any x y _ hx hy).mono ?_
  rintro e w1 ⟨rfl, rfl⟩
  rw [hs]
  go_wp2_with fail
  go_ret2
  exact ⟨rfl, (Fr.refl _ _).alloc _⟩

theorem DocAt.paged {w w1 : World} {base d n g' cap' : Nat} {pv sv : Value} {ps ss : List Value} {f : Value} (h : DocAt w base d pv sv ps ss) (hn : n = ps.length) (ho : w1.ownsRow 0 57 1 (.slice (some ⟨g', 0, none⟩) (n + 1) cap') (n + 1) (ps ++ [f])) (hf : Fr (fun k => pv.ownBlock = some k) w w1) (hat : pv.ownBlock = some g' ∨ w.heap.size ≤ g') :
    DocAt (w1.setCell ⟨d, 0, none⟩ (.slice (some ⟨g', 0, none⟩) (n + 1) cap')) base d (.slice (some ⟨g', 0, none⟩) (n + 1) cap') sv (ps ++ [f]) ss ∧ Fr (fun k => k = d ∨ pv.ownBlock = some k) w (w1.setCell ⟨d, 0, none⟩ (.slice (some ⟨g', 0, none⟩) (n + 1) cap')) := by
  subst hn
  have hne := row_ne h.pg h.blk (by decide)
  have hb1 : w1.heap[d]? = some (.cells #[pv, sv] 51 (0, 0)) := (hf.block _ h.lt (fun e => hne e)).trans h.blk
  have hbl : base ≤ w.heap.size := Nat.le_trans h.bas (Nat.le_of_lt h.lt)
  have hset : Fr (fun k => k = d) w1 (w1.setCell ⟨d, 0, none⟩ (.slice (some ⟨g', 0, none⟩) (ps.length + 1) cap')) := (Fr.refl (fun k => k = d) w1).setCell (p := ⟨d, 0, none⟩) (fun _ => rfl) _
  have hgd : g' ≠ d := fun e => by
    subst e
    rcases hat with e | e
    · exact hne e
    · have := h.lt; omega
  refine ⟨⟨?_, h.bas, ?_, ?_⟩, (hf.mono (fun _ _ e => Or.inr e)).trans hset (fun _ _ e => Or.inl e)⟩
  · simp [World.setCell, Array.getElem?_modify, hb1]
  · rw [List.length_append, List.length_singleton]
    refine row_kept (ownsRow_base ho (fun k hk => ?_)) hset (fun k hk e => ?_)
    · simp [Value.ownBlock] at hk
      subst hk
      rcases hat with e | e
      · exact (h.pg.lt _ e).1
      · omega
    · simp [Value.ownBlock] at hk
      omega
  · exact row_kept (row_kept h.st hf (fun k hk e => by
      rcases rows_ne h.st h.pg (by decide) with h1 | h1
      · rw [h1] at hk; cases hk
      · exact h1 (hk.trans e.symm))) hset (fun k hk e => by subst e; exact row_ne h.st h.blk (by decide) hk)

set_option maxHeartbeats 4000000 in
theorem newPage_yes (base d W H : Nat) (pv sv : Value) (ps ss : List Value) (w : World) (h : DocAt w base d pv sv ps ss) (hl : ps.length < 64) (hm : ss.length < 64) (h1 : 1 ≤ W) (h2 : 1 ≤ H) (h3 : W * H ≤ 1048576) :
    Calls Try.prog 8 #[.pointer (some ⟨d, 0, none⟩), .int .i64 W, .int .i64 H] w fun e w' => e = .returned (.tuple #[.int .i64 ps.length, .int .i64 0]) ∧ ∃ pv' sv' bx b g, DocAt w' base d pv' sv' (ps ++ [.pointer (some ⟨b, 0, none⟩)]) (ss ++ [.func (.func 19) #[] #[.pointer (some ⟨bx, 0, none⟩)]]) ∧ w'.heap[bx]? = some (.cells #[.pointer (some ⟨d, 0, none⟩)] 25 (0, 0)) ∧ MapAt w' b g (H * stride W) W H (fun _ _ => false) ∧ Fr (fun k => k = d ∨ pv.ownBlock = some k ∨ sv.ownBlock = some k) w w' ∧ w.heap.size ≤ bx ∧ w.heap.size ≤ b ∧ w.heap.size ≤ g ∧ (∀ k, pv'.ownBlock = some k → pv.ownBlock = some k ∨ w.heap.size ≤ k) ∧ (∀ k, sv'.ownBlock = some k → sv.ownBlock = some k ∨ w.heap.size ≤ k) := by
  obtain ⟨i0, hi, hz0, hz1, hz2⟩ := info_parts Try.infoPtr
  have hs : sizeOK (W : Int) (H : Int) = true := by
    unfold sizeOK
    refine decide_eq_true ⟨by omega, by omega, ?_⟩
    rw [← Int.natCast_mul]; omega
  obtain ⟨f1, f2, _⟩ := size_facts h1 h2 h3
  obtain ⟨ao, cap, rfl⟩ := own_slice h.pg
  have HD : Hid (DocAt w base d (.slice ao ps.length cap) sv ps ss) := h
  obtain ⟨e0, e1, ef⟩ := cell_of_two h.blk
  have hdl := h.lt
  clear h
  obtain ⟨n, Hn⟩ : ∃ n, Hid (n = ps.length) := ⟨_, rfl⟩
  have hl' : n < 64 := by rw [Hn.out]; exact hl
  rw [← Hn.out] at HD e0 ⊢
  clear hl
  have hmf : ∀ fn first cap w, (Instr.makeFunc fn first cap).run Try.prog w = .ok (.func fn first cap) w := fun _ _ _ _ => rfl
  obtain ⟨w0, HW0⟩ : ∃ w0, Hid (w0 = w.alloc (.cells #[.pointer (some ⟨d, 0, none⟩)] 25)) := ⟨_, rfl⟩
  go_enter Try.func8, Try.ntmps8
  go_wp2_with fail
  rw [← HW0.out]
  have HF0 : Hid (Fr (fun _ => False) w w0) := by rw [HW0.out]; exact (Fr.refl _ _).alloc _
  have HD0 : Hid (DocAt w0 base d (.slice ao n cap) sv ps ss) := HD.out.kept HF0.out (fun h => h) (fun _ _ h => h) (fun _ _ h => h)
  have HX0 : Hid (w0.heap[w.heap.size]? = some (.cells #[.pointer (some ⟨d, 0, none⟩)] 25 (0, 0))) := by rw [HW0.out]; exact heap_alloc_new w _
  have hsz0 : w0.heap.size = w.heap.size + 1 := by rw [HW0.out, World.size_alloc]
  refine (dsize_any W H _ (by omega) (by omega)).mono ?_
  rintro e w1 ⟨rfl, rfl⟩
  rw [hs]
  clear e0 e1 ef
  obtain ⟨e0, e1, ef⟩ := cell_of_two HD0.out.blk
  have hx0 := cell_of_one HX0.out
  go_wp2_with fail
  refine (new_yes W H _ h1 h2 h3).mono ?_
  rintro e w2 ⟨b, g, rfl, hn⟩
  have HF2 : Hid (Fr (fun _ => False) w1 w2) := hn.fr
  have HM2 : Hid (MapAt w2 b g (H * stride W) W H (fun _ _ => false)) := hn.at_
  have HNB : Hid (w1.heap.size ≤ b ∧ w1.heap.size ≤ g) := ⟨hn.nb, hn.ng⟩
  have HD2 : Hid (DocAt w2 base d (.slice ao n cap) sv ps ss) := HD0.out.kept HF2.out (fun h => h) (fun _ _ h => h) (fun _ _ h => h)
  have HX2 : Hid (w2.heap[w.heap.size]? = some (.cells #[.pointer (some ⟨d, 0, none⟩)] 25 (0, 0))) := by
    show _ = _
    rw [HF2.out.block _ (by omega) (fun h => h)]; exact HX0.out
  have hsz2 : w1.heap.size ≤ w2.heap.size := HF2.out.size
  clear hn hx0 e0 e1 ef
  obtain ⟨e0, e1, ef⟩ := cell_of_two HD2.out.blk
  have hx0 := cell_of_one HX2.out
  have HW : Hid (w2.ownsRow 0 57 1 (.slice ao n cap) n ps) := by
    have := ownsRow_base (b' := 0) HD2.out.pg (fun _ _ => Nat.zero_le _)
    rw [← Hn.out] at this
    exact this
  have hdl2 : d < w2.heap.size := HD2.out.lt
  have hne : (Value.slice ao n cap).ownBlock ≠ some d := row_ne HD2.out.pg HD2.out.blk (by decide)
  have hnx : (Value.slice ao n cap).ownBlock ≠ some w.heap.size := row_ne HD2.out.pg HX2.out (by decide)
  have HAP : Hid (b ≠ d ∧ g ≠ d ∧ (Value.slice ao n cap).ownBlock ≠ some b ∧ (Value.slice ao n cap).ownBlock ≠ some g ∧ sv.ownBlock ≠ some b ∧ sv.ownBlock ≠ some g) := HM2.out.apart HD2.out
  have hxl : w.heap.size < w2.heap.size := by omega
  have KC : Hid (∀ (w3 : World), (w2.alloc (.cells #[.pointer (some ⟨b, 0, none⟩)] 57)).drew.grownBy w3 (Value.slice ao n cap).ownBlock → w3.cell? ⟨d, 0, none⟩ = some (.slice ao n cap) ∧ w3.frozen? ⟨d, 0, none⟩ = false ∧ w3.cell? ⟨w.heap.size, 0, none⟩ = some (.pointer (some ⟨d, 0, none⟩)) ∧ d < w3.heap.size) := by
    intro w3 hgrow
    have f : Fr (fun k => (Value.slice ao n cap).ownBlock = some k) w2 w3 := (((Fr.refl _ _).alloc _).drew).grown hgrow (fun k hk _ => hk)
    have hb := (f.block _ hdl2 hne).trans HD2.out.blk
    obtain ⟨a0, _, a2⟩ := cell_of_two hb
    exact ⟨a0, a2 0, cell_of_one ((f.block _ hxl hnx).trans HX2.out), Nat.lt_of_lt_of_le hdl2 f.size⟩
  have HSZ : Hid (w1.heap.size = w.heap.size + 1 ∧ w1.heap.size ≤ w2.heap.size) := ⟨hsz0, hsz2⟩
  have HNX : Hid ((Value.slice ao n cap).ownBlock ≠ some w.heap.size) := hnx
  clear hne hnx f1 f2 hsz0 hsz2
  go_wp2_with fail
  go_region_law ((refine step_append_lies _ (by rfl) _ _ _ (by rfl) 0 57 i0 (.pointer none) 1 8 Try.underlying48 hi hz0 hz1 hz2 rfl (by decide) (.slice ao n cap) n _ (by rfl) (HW.out.alloc _) ⟨w2.heap.size, 0, none⟩ 1 1 [.pointer (some ⟨b, 0, none⟩)] (by rfl) rfl (cell_one_new w2 _ 57) (by intro u hu; simp at hu; subst hu; rfl) (by decide) (by unfold maxLen; omega) (by omega) (Nat.zero_le _) (w2.heap.size + 1) (by simp) ?_; intro g' cap' w3 hown1 hgrow hat hlt; obtain ⟨k1, kf1, kx, kl⟩ := KC.out w3 hgrow; have HG : Hid ((w2.alloc (.cells #[.pointer (some ⟨b, 0, none⟩)] 57)).drew.grownBy w3 (Value.slice ao n cap).ownBlock) := hgrow; have HN1 : Hid (w3.ownsRow 0 57 1 (.slice (some ⟨g', 0, none⟩) (n + 1) cap') (n + 1) (ps ++ [.pointer (some ⟨b, 0, none⟩)])) := hown1; have HAT : Hid ((Value.slice ao n cap).ownBlock = some g' ∨ g' = w2.heap.size + 1) := hat; clear hgrow hown1 hat))
  all_goals
    go_wp2_with fail
    have hpg := HD2.out.paged Hn.out HN1.out ((((Fr.refl _ w2).alloc _).drew).grown HG.out (fun k hk _ => hk)) (HAT.out.imp id (fun e => by omega))
    have HFP : Hid (Fr (fun k => k = d ∨ (Value.slice ao n cap).ownBlock = some k) w2 (w3.setCell ⟨d, 0, none⟩ (.slice (some ⟨g', 0, none⟩) (n + 1) cap'))) := hpg.2
    obtain ⟨w4, HW4⟩ : ∃ w4, Hid (w4 = w3.setCell ⟨d, 0, none⟩ (.slice (some ⟨g', 0, none⟩) (n + 1) cap')) := ⟨_, rfl⟩
    have hd4 := hpg.1
    rw [← HW4.out] at HFP hd4 ⊢
    have HD4 : Hid (DocAt w4 base d (.slice (some ⟨g', 0, none⟩) (n + 1) cap') sv (ps ++ [.pointer (some ⟨b, 0, none⟩)]) ss) := hd4
    clear hpg hd4 k1 kf1 kx kl
    refine (remember_room base d _ sv _ ss (.func 19) #[.pointer (some ⟨w.heap.size, 0, none⟩)] _ HD4.out hm).mono ?_
    rintro e w5 ⟨rfl, sv', hd5, hf5, ho5⟩
    have HD5 : Hid (DocAt w5 base d (.slice (some ⟨g', 0, none⟩) (n + 1) cap') sv' (ps ++ [.pointer (some ⟨b, 0, none⟩)]) (ss ++ [.func (.func 19) #[] #[.pointer (some ⟨w.heap.size, 0, none⟩)]])) := hd5
    have HF5 : Hid (Fr (fun k => k = d ∨ sv.ownBlock = some k) w4 w5) := hf5
    have HO5 : Hid (∀ k, sv'.ownBlock = some k → sv.ownBlock = some k ∨ w4.heap.size ≤ k) := ho5
    clear hd5 hf5 ho5
    go_wp2_with fail
    go_ret2
    have hsz := HSZ.out
    have hsz4 := HFP.out.size
    have hsl : ∀ k, sv.ownBlock = some k → k < w.heap.size := fun k hk => (HD.out.st.lt k hk).2
    have hpl : ∀ k, (Value.slice ao n cap).ownBlock = some k → k < w.heap.size := fun k hk => (HD.out.pg.lt k hk).2
    have hnb := HNB.out
    refine ⟨rfl, _, sv', w.heap.size, b, g, HD5.out, ?_, (HM2.out.kept HFP.out (fun e => e.elim HAP.out.1 HAP.out.2.2.1) (fun e => e.elim HAP.out.2.1 HAP.out.2.2.2.1)).kept HF5.out (fun e => e.elim HAP.out.1 HAP.out.2.2.2.2.1) (fun e => e.elim HAP.out.2.1 HAP.out.2.2.2.2.2), ?_, Nat.le_refl _, by omega, by omega, fun k hk => ?_, fun k hk => (HO5.out k hk).imp id (fun h => by omega)⟩
    · rw [HF5.out.block _ (by omega) (fun e => e.elim (fun e => by omega) (fun e => by have := hsl _ e; omega)), HFP.out.block _ (by omega) (fun e => e.elim (fun e => by omega) HNX.out)]
      exact HX2.out
    · refine Fr.trans (HF0.out.mono (fun _ _ h => h.elim)) (Fr.trans (HF2.out.mono (fun _ _ h => h.elim)) (Fr.trans (HFP.out.mono (fun k _ h => h.elim Or.inl (fun h => Or.inr (Or.inl h)))) HF5.out (fun k _ h => h.elim Or.inl (fun h => Or.inr (Or.inr h)))) (fun _ _ h => h)) (fun _ _ h => h)
    · simp [Value.ownBlock] at hk
      subst hk
      rcases HAT.out with e | e
      · exact Or.inl e
      · exact Or.inr (by omega)
end Go.Proofs.Ytpblenebmjmijaa
