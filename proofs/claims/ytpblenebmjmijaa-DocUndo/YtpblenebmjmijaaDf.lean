/- 'Undo', 'Page', 'Set', 'NewPage'. -/
import Derived.Test.YtpblenebmjmijaaDe
namespace Go.Proofs.Ytpblenebmjmijaa
set_option maxRecDepth 100000
open Go.RowKit

/-- A page's map is no block of the document's own. -/
theorem MapAt.apart {w : World} {base d b g cap W H : Nat} {P : Nat → Nat → Bool} {pv sv : Value} {ps ss : List Value} (hm : MapAt w b g cap W H P) (h : DocAt w base d pv sv ps ss) :
    b ≠ d ∧ g ≠ d ∧ pv.ownBlock ≠ some b ∧ pv.ownBlock ≠ some g ∧ sv.ownBlock ≠ some b ∧ sv.ownBlock ≠ some g := by
  refine ⟨?_, ?_, row_ne h.pg hm.blk (by decide), ?_, row_ne h.st hm.blk (by decide), ?_⟩
  · rintro rfl
    have := hm.blk.symm.trans h.blk
    simp at this
  · rintro rfl
    exact row_ne hm.own h.blk (by decide) rfl
  · intro e
    rcases rows_ne hm.own h.pg (by decide) with h1 | h1
    · cases h1
    · exact h1 e.symm
  · intro e
    rcases rows_ne hm.own h.st (by decide) with h1 | h1
    · cases h1
    · exact h1 e.symm

set_option maxHeartbeats 1000000 in
theorem undo_none (base d : Nat) (pv sv : Value) (ps : List Value) (w : World) (h : DocAt w base d pv sv ps []) :
    Calls Try.prog 13 #[.pointer (some ⟨d, 0, none⟩)] w fun e w' => e = .returned (.bool false) ∧ Fr (fun _ => False) w w' := by
  go_enter Try.func13, Try.ntmps13
  go_wp2_with fail
  refine (lastStep_none base d pv sv ps _ h).mono ?_
  rintro e w1 ⟨rfl, hf⟩
  have HF : Hid (Fr (fun _ => False) w w1) := hf
  clear hf h
  go_wp2_with fail
  go_ret
  exact ⟨rfl, HF.out.alloc _⟩

set_option maxHeartbeats 1000000 in
theorem undo_paged (base d bx : Nat) (pv sv : Value) (ps ss : List Value) (x : Value) (w : World) (h : DocAt w base d pv sv (ps ++ [x]) (ss ++ [.func (.func 19) #[] #[.pointer (some ⟨bx, 0, none⟩)]])) (hl : ss.length < 64) (hx : w.heap[bx]? = some (.cells #[.pointer (some ⟨d, 0, none⟩)] 25 (0, 0))) :
    Calls Try.prog 13 #[.pointer (some ⟨d, 0, none⟩)] w fun e w' => e = .returned (.bool true) ∧ ∃ pv' sv', DocAt w' base d pv' sv' ps ss ∧ Fr (fun k => k = d ∨ pv.ownBlock = some k ∨ sv.ownBlock = some k) w w' ∧ pv'.ownBlock = pv.ownBlock ∧ sv'.ownBlock = sv.ownBlock := by
  have HX : Hid (w.heap[bx]? = some (.cells #[.pointer (some ⟨d, 0, none⟩)] 25 (0, 0))) := hx
  have HB : Hid (bx ≠ d ∧ pv.ownBlock ≠ some bx ∧ sv.ownBlock ≠ some bx) := ⟨by rintro rfl; have := hx.symm.trans h.blk; simp at this, row_ne h.pg hx (by decide), row_ne h.st hx (by decide)⟩
  clear hx
  go_enter Try.func13, Try.ntmps13
  go_wp2_with fail
  refine (lastStep_some base d pv sv (ps ++ [x]) ss (.func 19) #[.pointer (some ⟨bx, 0, none⟩)] _ h hl).mono ?_
  rintro e w1 ⟨rfl, sv', hd, hf, ho⟩
  have HD : Hid (DocAt w1 base d pv sv' (ps ++ [x]) ss) := hd
  have HF : Hid (Fr (fun k => k = d ∨ sv.ownBlock = some k) w w1) := hf
  have HO : Hid (sv'.ownBlock = sv.ownBlock) := ho
  have HX1 : Hid (w1.heap[bx]? = some (.cells #[.pointer (some ⟨d, 0, none⟩)] 25 (0, 0))) := by
    show _ = _
    rw [hf.block bx (lt_of_block HX.out) (fun e => e.elim HB.out.1 HB.out.2.2)]
    exact HX.out
  clear hd hf ho h
  go_wp2_with fail
  have hkx : (w1.alloc (.cells #[.func (.func 19) #[] #[.pointer (some ⟨bx, 0, none⟩)]] 63)).heap[bx]? = some (.cells #[.pointer (some ⟨d, 0, none⟩)] 25 (0, 0)) :=
    (heap_alloc_old _ _ (lt_of_block HX1.out)).trans HX1.out
  refine (undo_page base d bx pv sv' ps ss x _ (HD.out.kept (S := fun _ => False) ((Fr.refl _ _).alloc _) (fun h => h) (fun _ _ h => h) (fun _ _ h => h)) (cell_of_one hkx) (fun k hk e => HB.out.2.1 (by rw [hk, e]))).mono ?_
  rintro e w2 ⟨rfl, pv', hd2, hf2, ho2⟩
  have HD2 : Hid (DocAt w2 base d pv' sv' ps ss) := hd2
  have HF2 : Hid (Fr (fun k => k = d ∨ pv.ownBlock = some k) w1 w2) := ((Fr.refl _ w1).alloc _).trans hf2 (fun _ _ h => h)
  have HO2 : Hid (pv'.ownBlock = pv.ownBlock) := ho2
  clear hd2 hf2 ho2 hkx
  go_wp2_with fail
  go_ret
  refine ⟨rfl, pv', sv', HD2.out, (HF.out.mono (fun k _ h => h.elim Or.inl (fun h => Or.inr (Or.inr h)))).trans HF2.out (fun k _ h => h.elim Or.inl (fun h => Or.inr (Or.inl h))), HO2.out, HO.out⟩

set_option maxHeartbeats 1000000 in
theorem undo_pixeled (base d b g cap W H s x y bit : Nat) (P : Nat → Nat → Bool) (pv sv : Value) (ps ss : List Value) (w : World) (h : DocAt w base d pv sv ps (ss ++ [.func (.func 40) #[] (pixCaps s)])) (hl : ss.length < 64) (hm : MapAt w b g cap W H P) (hp : PixAt w s b x y bit) (hx : x < W) (hy : y < H) (hbit : bit ≤ 1) :
    Calls Try.prog 13 #[.pointer (some ⟨d, 0, none⟩)] w fun e w' => e = .returned (.bool true) ∧ ∃ sv', DocAt w' base d pv sv' ps ss ∧ MapAt w' b g cap W H (laidAll P y x 1 fun _ => decide (bit = 1)) ∧ Fr (fun k => k = d ∨ sv.ownBlock = some k ∨ k = g) w w' ∧ sv'.ownBlock = sv.ownBlock := by
  have HM : Hid (MapAt w b g cap W H P) := hm
  have HP : Hid (PixAt w s b x y bit) := hp
  have HB : Hid (b ≠ d ∧ g ≠ d ∧ pv.ownBlock ≠ some b ∧ pv.ownBlock ≠ some g ∧ sv.ownBlock ≠ some b ∧ sv.ownBlock ≠ some g) := hm.apart h
  have HPF : Hid (∀ w1, Fr (fun k => k = d ∨ sv.ownBlock = some k) w w1 → PixAt w1 s b x y bit) := fun w1 f => by
    have n0 : ∀ k (o : Value) (t : TypeId), w.heap[k]? = some (.cells #[o] t (0, 0)) → t ≠ 63 → ¬ (k = d ∨ sv.ownBlock = some k) := fun k o t hk ht e => by
      rcases e with e | e
      · subst e; have := hk.symm.trans h.blk; simp at this
      · exact row_ne h.st hk ht e
    exact ⟨(f.block _ (lt_of_block hp.c0) (n0 _ _ _ hp.c0 (by decide))).trans hp.c0, (f.block _ (lt_of_block hp.c1) (n0 _ _ _ hp.c1 (by decide))).trans hp.c1, (f.block _ (lt_of_block hp.c2) (n0 _ _ _ hp.c2 (by decide))).trans hp.c2, (f.block _ (lt_of_block hp.c3) (n0 _ _ _ hp.c3 (by decide))).trans hp.c3⟩
  clear hm hp
  go_enter Try.func13, Try.ntmps13
  go_wp2_with fail
  refine (lastStep_some base d pv sv ps ss (.func 40) (pixCaps s) _ h hl).mono ?_
  rintro e w1 ⟨rfl, sv', hd, hf, ho⟩
  have HD : Hid (DocAt w1 base d pv sv' ps ss) := hd
  have HF : Hid (Fr (fun k => k = d ∨ sv.ownBlock = some k) w w1) := hf
  have HO : Hid (sv'.ownBlock = sv.ownBlock) := ho
  have HM1 : Hid (MapAt w1 b g cap W H P) := HM.out.kept hf (fun e => e.elim HB.out.1 HB.out.2.2.2.2.1) (fun e => e.elim HB.out.2.1 HB.out.2.2.2.2.2)
  have HP1 : Hid (PixAt w1 s b x y bit) := HPF.out w1 hf
  clear hd hf ho h
  obtain ⟨cs, HCS⟩ : ∃ cs, Hid (cs = pixCaps s) := ⟨_, rfl⟩
  rw [← HCS.out]
  go_wp2_with fail
  have hfa : Fr (fun _ => False) w1 (w1.alloc (.cells #[.func (.func 40) #[] cs] 63)) := (Fr.refl _ _).alloc _
  have hcc := undo_pixel b g cap W H P s x y bit _ (HM1.out.kept hfa (fun h => h) (fun h => h)) (HP1.out.kept hfa (fun _ _ h => h)) hx hy hbit
  rw [← HCS.out] at hcc
  refine hcc.mono ?_
  rintro e w2 ⟨rfl, hm2, hf2⟩
  have HM2 : Hid (MapAt w2 b g cap W H (laidAll P y x 1 fun _ => decide (bit = 1))) := hm2
  have HF2 : Hid (Fr (fun k => k = g) w1 w2) := (hfa.mono (fun _ _ h => h.elim)).trans hf2 (fun _ _ h => h)
  clear hm2 hf2 hcc
  go_wp2_with fail
  go_ret
  refine ⟨rfl, sv', HD.out.kept HF2.out (fun e => HB.out.2.1 e.symm) (fun k hk e => HB.out.2.2.2.1 (by rw [hk, e])) (fun k hk e => HB.out.2.2.2.2.2 (by rw [← HO.out, hk, e])), HM2.out, (HF.out.mono (fun k _ h => h.elim Or.inl (fun h => Or.inr (Or.inl h)))).trans HF2.out (fun k _ h => Or.inr (Or.inr h)), HO.out⟩
end Go.Proofs.Ytpblenebmjmijaa
