/- What steps take back: a page; a pixel. -/
import Derived.Test.YtpblenebmjmijaaDd
namespace Go.Proofs.Ytpblenebmjmijaa
set_option maxRecDepth 100000
open Go.RowKit

/-- A document behind its last page's going. -/
theorem DocAt.unpaged {w : World} {base d g n cap : Nat} {sv : Value} {ps ss : List Value} {f u : Value} (h : DocAt w base d (.slice (some ⟨g, 0, none⟩) (n + 1) cap) sv (ps ++ [f]) ss) (hn : n = ps.length) :
    DocAt ((w.setCell ⟨g, n, none⟩ u).setCell ⟨d, 0, none⟩ (.slice (some ⟨g, 0, none⟩) n cap)) base d (.slice (some ⟨g, 0, none⟩) n cap) sv ps ss := by
  subst hn
  have hne : g ≠ d := fun e => row_ne h.pg h.blk (by decide) (by rw [e]; rfl)
  have hst := h.pg
  rw [show (ps ++ [f]).length = ps.length + 1 by simp] at hst
  have hb : (w.setCell ⟨g, ps.length, none⟩ u).heap[d]? = some (.cells #[.slice (some ⟨g, 0, none⟩) (ps.length + 1) cap, sv] 51 (0, 0)) := by
    rw [Below.heap_setCell _ _ _ _ (by exact fun e => hne e.symm)]; exact h.blk
  have f1 : Fr (fun k => k = g) w (w.setCell ⟨g, ps.length, none⟩ u) := (Fr.refl (fun k => k = g) w).setCell (p := ⟨g, ps.length, none⟩) (fun _ => rfl) _
  have f2 : ∀ w1 : World, Fr (fun k => k = d) w1 (w1.setCell ⟨d, 0, none⟩ (.slice (some ⟨g, 0, none⟩) ps.length cap)) := fun w1 => (Fr.refl (fun k => k = d) w1).setCell (p := ⟨d, 0, none⟩) (fun _ => rfl) _
  refine ⟨?_, h.bas, row_kept (row_dropped hst) (f2 _) (fun k hk e => ?_), row_kept (row_kept h.st f1 (fun k hk e => ?_)) (f2 _) (fun k hk e => by subst e; exact row_ne h.st h.blk (by decide) hk)⟩
  · simp [World.setCell, Array.getElem?_modify] at hb ⊢
    simp [hb]
  · simp [Value.ownBlock] at hk; omega
  · subst e
    rcases rows_ne h.st h.pg (by decide) with h1 | h1
    · rw [h1] at hk; cases hk
    · exact h1 hk

set_option maxHeartbeats 1000000 in
theorem undo_page (base d bx : Nat) (pv sv : Value) (ps ss : List Value) (x : Value) (w : World) (h : DocAt w base d pv sv (ps ++ [x]) ss) (hx : w.cell? ⟨bx, 0, none⟩ = some (.pointer (some ⟨d, 0, none⟩))) (hp : ∀ k, pv.ownBlock = some k → k ≠ bx) :
    Calls Try.prog 19 #[.pointer (some ⟨bx, 0, none⟩)] w fun e w' => e = .returned (.tuple #[]) ∧ ∃ pv', DocAt w' base d pv' sv ps ss ∧ Fr (fun k => k = d ∨ pv.ownBlock = some k) w w' ∧ pv'.ownBlock = pv.ownBlock := by
  have HD : Hid (DocAt w base d pv sv (ps ++ [x]) ss) := h
  obtain ⟨g, cap, rfl, hbg, hgl⟩ := h.pg.form (by simp)
  have hne : g ≠ d := fun e => row_ne h.pg h.blk (by decide) (by rw [e]; rfl)
  have hgx : g ≠ bx := hp g rfl
  obtain ⟨e0, e1, ef⟩ := cell_of_two h.blk
  have hlen : (ps ++ [x]).length = ps.length + 1 := by simp
  have hst := h.pg
  rw [hlen] at hst e0 HD ⊢
  have HR : Hid (w.ownsRow base 57 1 (.slice (some ⟨g, 0, none⟩) (ps.length + 1) cap) (ps.length + 1) (ps ++ [x])) := hst
  clear h hst hlen hp
  generalize hN : ps.length = n at *
  have HN : Hid (n = ps.length) := hN.symm
  clear hN
  go_enter Try.func19, Try.ntmps19
  go_wp2_with fail
  go_region_with (first | (go_at_call 20; refine (without_pages base n g cap ps x _ (by first | exact HR.out | exact HR.out.drew)).mono ?_; rintro e w7 ⟨rfl, rfl⟩))
  all_goals
    go_wp2_with fail
    go_end0
    refine ⟨rfl, _, (HD.out.unpaged (u := .pointer none) HN.out).kept (S := fun _ => False) (Fr.refl _ _).drew (fun h => h) (fun _ _ h => h) (fun _ _ h => h), ?_, rfl⟩
    refine (Fr.setCell (Fr.setCell (Fr.refl _ w) (p := ⟨g, n, none⟩) ?_ _) (p := ⟨d, 0, none⟩) ?_ _).drew
    · exact fun _ => Or.inr rfl
    · exact fun _ => Or.inl rfl
/-- A pixel's step: its four variables: the map, the place, the bit that was. -/
structure PixAt (w : World) (s b x y bit : Nat) : Prop where
  c0 : w.heap[s]? = some (.cells #[.pointer (some ⟨b, 0, none⟩)] 57 (0, 0))
  c1 : w.heap[s + 1]? = some (.cells #[.int .i64 x] 3 (0, 0))
  c2 : w.heap[s + 2]? = some (.cells #[.int .i64 y] 3 (0, 0))
  c3 : w.heap[s + 4]? = some (.cells #[.int .i64 bit] 3 (0, 0))
def pixCaps (s : Nat) : Array Value := #[.pointer (some ⟨s, 0, none⟩), .pointer (some ⟨s + 1, 0, none⟩), .pointer (some ⟨s + 2, 0, none⟩), .pointer (some ⟨s + 4, 0, none⟩)]
theorem cell_of_one {w : World} {b : Nat} {x : Value} {t : TypeId} (h : w.heap[b]? = some (.cells #[x] t (0, 0))) : w.cell? ⟨b, 0, none⟩ = some x := by
  simp [World.cell?, h]
theorem PixAt.kept {S : Nat → Prop} {w w' : World} {s b x y bit : Nat} (h : PixAt w s b x y bit) (f : Fr S w w') (h1 : ∀ j, j < 5 → ¬ S (s + j)) : PixAt w' s b x y bit :=
  ⟨(f.block _ (lt_of_block h.c0) (h1 0 (by omega))).trans h.c0, (f.block _ (lt_of_block h.c1) (h1 1 (by omega))).trans h.c1, (f.block _ (lt_of_block h.c2) (h1 2 (by omega))).trans h.c2, (f.block _ (lt_of_block h.c3) (h1 4 (by omega))).trans h.c3⟩

set_option maxHeartbeats 1000000 in
theorem undo_pixel (b g cap W H : Nat) (P : Nat → Nat → Bool) (s x y bit : Nat) (w : World) (h : MapAt w b g cap W H P) (hp : PixAt w s b x y bit) (hx : x < W) (hy : y < H) (hbit : bit ≤ 1) :
    Calls Try.prog 40 (pixCaps s) w fun e w' => e = .returned (.tuple #[]) ∧ MapAt w' b g cap W H (laidAll P y x 1 fun _ => decide (bit = 1)) ∧ Fr (fun k => k = g) w w' := by
  have c0 := cell_of_one hp.c0
  have c1 := cell_of_one hp.c1
  have c2 := cell_of_one hp.c2
  have c3 := cell_of_one hp.c3
  have HA : Hid (MapAt w b g cap W H P) := h
  clear hp h
  unfold pixCaps
  go_enter Try.func40, Try.ntmps40
  go_wp2_with fail
  refine (set_in b g cap W H P x y bit _ HA.out hx hy hbit).mono ?_
  rintro e w1 ⟨rfl, hm, hf⟩
  have HM : Hid (MapAt w1 b g cap W H (laidAll P y x 1 fun _ => decide (bit = 1))) := hm
  have HF : Hid (Fr (fun k => k = g) w w1) := hf
  clear hm hf c0 c1 c2 c3
  go_wp2_with fail
  go_end0
  exact ⟨rfl, HM.out, HF.out⟩

set_option maxHeartbeats 1000000 in
theorem pixelAgain_in (b g cap W H : Nat) (P : Nat → Nat → Bool) (x y : Nat) (w : World) (h : MapAt w b g cap W H P) (hx : x < W) (hy : y < H) :
    Calls Try.prog 24 #[.pointer (some ⟨b, 0, none⟩), .int .i64 x, .int .i64 y] w fun e w' => e = .returned (.agg #[.func (.func 40) #[] (pixCaps w.heap.size)]) ∧ PixAt w' w.heap.size b x y (P x y).toNat ∧ Fr (fun _ => False) w w' := by
  have HA : Hid (MapAt w b g cap W H P) := h
  have hmf : ∀ fn first cap w, (Instr.makeFunc fn first cap).run Try.prog w = .ok (.func fn first cap) w := fun _ _ _ _ => rfl
  clear h
  go_enter Try.func24, Try.ntmps24
  go_wp2_with fail
  refine (get_in b g cap W H P x y _ (HA.out.kept (S := fun _ => False) (((((Fr.refl _ _).alloc _).alloc _).alloc _).alloc _) (fun h => h) (fun h => h)) hx hy).mono ?_
  rintro e w1 ⟨rfl, q, rfl⟩
  go_wp2_with fail
  have hn1 := heap_alloc_new w (.cells #[.pointer (some ⟨b, 0, none⟩)] 57)
  have hn2 := heap_alloc_new (w.alloc (.cells #[.pointer (some ⟨b, 0, none⟩)] 57)) (.cells #[.int .i64 x] 3)
  have hn3 := heap_alloc_new ((w.alloc (.cells #[.pointer (some ⟨b, 0, none⟩)] 57)).alloc (.cells #[.int .i64 x] 3)) (.cells #[.int .i64 y] 3)
  have hn4 := heap_alloc_new (((w.alloc (.cells #[.pointer (some ⟨b, 0, none⟩)] 57)).alloc (.cells #[.int .i64 x] 3)).alloc (.cells #[.int .i64 y] 3)) (.cells #[.nilFunc] 63)
  simp only [World.size_alloc] at hn2 hn3 hn4
  have e3 : w.heap.size + 1 + 1 + 1 = w.heap.size + 3 := rfl
  refine bodyPost_ret (results_cell_row rfl _ _ (w.heap.size + 3) 63 #[.func (.func 40) #[] (pixCaps w.heap.size)] (0, 0) _ rfl ?_ Try.underlying63 rfl (by kernel_rfl)) rfl ⟨rfl, ⟨?_, ?_, ?_, ?_⟩, ?_⟩
  · rw [heap_alloc_old _ _ (by simp [World.setCell, World.drewN, World.size_alloc])]
    simp only [World.setCell, Array.getElem?_modify, World.drewN]
    rw [show w.heap.size + 1 + 1 + 1 = w.heap.size + 3 from rfl] at hn4 ⊢
    rw [hn4]
    simp [pixCaps]
  · exact ((Fr.setCell (S := fun _ => False) (((((Fr.refl _ (w.alloc _)).alloc _).alloc _).alloc _).drewN q) (p := ⟨w.heap.size + 1 + 1 + 1, 0, none⟩) (fun h => by simp at h; omega) _).alloc _).block _ (by simp) (fun h => h) |>.trans hn1
  · exact ((Fr.setCell (S := fun _ => False) ((((Fr.refl _ ((w.alloc _).alloc _)).alloc _).alloc _).drewN q) (p := ⟨w.heap.size + 1 + 1 + 1, 0, none⟩) (fun h => by simp at h; omega) _).alloc _).block _ (by simp) (fun h => h) |>.trans hn2
  · exact ((Fr.setCell (S := fun _ => False) (((Fr.refl _ (((w.alloc _).alloc _).alloc _)).alloc _).drewN q) (p := ⟨w.heap.size + 1 + 1 + 1, 0, none⟩) (fun h => by simp at h) _).alloc _).block _ (by simp) (fun h => h) |>.trans hn3
  · have := heap_alloc_new (((((((w.alloc (.cells #[.pointer (some ⟨b, 0, none⟩)] 57)).alloc (.cells #[.int .i64 x] 3)).alloc (.cells #[.int .i64 y] 3)).alloc (.cells #[.nilFunc] 63)).drewN q).setCell ⟨w.heap.size + 3, 0, none⟩ (.func (.func 40) #[] (pixCaps w.heap.size)))) (.cells #[.int .i64 ((P x y).toNat : Nat)] 3)
    rw [show ((((((w.alloc (.cells #[.pointer (some ⟨b, 0, none⟩)] 57)).alloc (.cells #[.int .i64 x] 3)).alloc (.cells #[.int .i64 y] 3)).alloc (.cells #[.nilFunc] 63)).drewN q).setCell ⟨w.heap.size + 3, 0, none⟩ (.func (.func 40) #[] (pixCaps w.heap.size))).heap.size = w.heap.size + 4 by simp [World.setCell, World.drewN, World.size_alloc]] at this
    exact this
  · exact (Fr.setCell ((((((Fr.refl _ w).alloc _).alloc _).alloc _).alloc _).drewN q) (p := ⟨w.heap.size + 1 + 1 + 1, 0, none⟩) (fun h => by have h' : w.heap.size + 1 + 1 + 1 < w.heap.size := h; omega) _).alloc _
end Go.Proofs.Ytpblenebmjmijaa
