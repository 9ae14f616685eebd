/- 'Undo' of a rectangle. -/
import Derived.Test.YtpblenebmjmijaaEf
namespace Go.Proofs.Ytpblenebmjmijaa
set_option maxRecDepth 100000
open Go.RowKit

/-- What stands there behind a rectangle's step that was taken back. -/
def undoPix (P Q : Nat → Nat → Bool) (W H q1 n1 q2 n2 : Nat) : Nat → Nat → Bool :=
  if n1 = 0 ∨ n2 = 0 then Q else blitPix (opB 4) Q (cropPix W H P q1 q2) n1 n2 0 0 n1 n2 q1 q2

set_option maxHeartbeats 1000000 in
theorem undo_empty (base d : Nat) (pv sv : Value) (ps ss : List Value) (w : World) (h : DocAt w base d pv sv ps (ss ++ [.func (.func 45) #[] #[]])) (hl : ss.length < 64) :
    Calls Try.prog 13 #[.pointer (some ⟨d, 0, none⟩)] w fun e w' => e = .returned (.bool true) ∧ ∃ sv', DocAt w' base d pv sv' ps ss ∧ Fr (fun k => k = d ∨ sv.ownBlock = some k) w w' ∧ sv'.ownBlock = sv.ownBlock := by
  go_enter Try.func13, Try.ntmps13
  go_wp2_with fail
  refine (lastStep_some base d pv sv ps ss (.func 45) #[] _ h hl).mono ?_
  rintro e w1 ⟨rfl, sv', hd, hf, ho⟩
  have HD : Hid (DocAt w1 base d pv sv' ps ss) := hd
  have HF : Hid (Fr (fun k => k = d ∨ sv.ownBlock = some k) w w1) := hf
  have HO : Hid (sv'.ownBlock = sv.ownBlock) := ho
  clear hd hf ho h
  go_wp2_with fail
  refine (undo_nothing _).mono ?_
  rintro e w2 ⟨rfl, rfl⟩
  go_wp2_with fail
  go_ret
  exact ⟨rfl, sv', HD.out.kept (S := fun _ => False) ((Fr.refl _ _).alloc _) (fun h => h) (fun _ _ h => h) (fun _ _ h => h), HF.out.alloc _, HO.out⟩

set_option maxHeartbeats 1000000 in
theorem undo_recto (base d b g cap W H b0 g0 cap0 s t q1 n1 q2 n2 : Nat) (P P0 : Nat → Nat → Bool) (pv sv : Value) (ps ss : List Value) (w : World) (h : DocAt w base d pv sv ps (ss ++ [.func (.func 47) #[] (rectCaps s t)])) (hl : ss.length < 64) (hm : MapAt w b g cap W H P) (hm0 : MapAt w b0 g0 cap0 n1 n2 P0) (hp : RectAt w s t b b0 q1 n1 q2 n2) (hne : b0 ≠ b) (hbg : b0 ≠ g) (hgg : g0 ≠ g) (hq1 : q1 ≤ 1048576) (hq2 : q2 ≤ 1048576) :
    Calls Try.prog 13 #[.pointer (some ⟨d, 0, none⟩)] w fun e w' => e = .returned (.bool true) ∧ ∃ sv', DocAt w' base d pv sv' ps ss ∧ MapAt w' b g cap W H (blitPix (opB 4) P P0 n1 n2 0 0 n1 n2 q1 q2) ∧ Fr (fun k => k = d ∨ sv.ownBlock = some k ∨ k = g) w w' ∧ sv'.ownBlock = sv.ownBlock := by
  have HM : Hid (MapAt w b g cap W H P) := hm
  have HM0 : Hid (MapAt w b0 g0 cap0 n1 n2 P0) := hm0
  have HP : Hid (RectAt w s t b b0 q1 n1 q2 n2) := hp
  have HB : Hid (b ≠ d ∧ g ≠ d ∧ pv.ownBlock ≠ some b ∧ pv.ownBlock ≠ some g ∧ sv.ownBlock ≠ some b ∧ sv.ownBlock ≠ some g) := hm.apart h
  have HB0 : Hid (b0 ≠ d ∧ g0 ≠ d ∧ pv.ownBlock ≠ some b0 ∧ pv.ownBlock ≠ some g0 ∧ sv.ownBlock ≠ some b0 ∧ sv.ownBlock ≠ some g0) := hm0.apart h
  have HPF : Hid (∀ w1, Fr (fun k => k = d ∨ sv.ownBlock = some k) w w1 → RectAt w1 s t b b0 q1 n1 q2 n2) := fun w1 f => by
    have n0 : ∀ k (o : Array Value) (t : TypeId), w.heap[k]? = some (.cells o t (0, 0)) → t ≠ 51 → t ≠ 63 → ¬ (k = d ∨ sv.ownBlock = some k) := fun k o t hk ht1 ht e => by
      rcases e with e | e
      · subst e; have := hk.symm.trans h.blk; simp at this; exact ht1 this.2
      · exact row_ne h.st hk ht e
    exact ⟨(f.block _ (lt_of_block hp.c0) (n0 _ _ _ hp.c0 (by decide) (by decide))).trans hp.c0, (f.block _ (lt_of_block hp.c1) (n0 _ _ _ hp.c1 (by decide) (by decide))).trans hp.c1, (f.block _ (lt_of_block hp.c2) (n0 _ _ _ hp.c2 (by decide) (by decide))).trans hp.c2, (f.block _ (lt_of_block hp.c3) (n0 _ _ _ hp.c3 (by decide) (by decide))).trans hp.c3⟩
  clear hm hp hm0
  go_enter Try.func13, Try.ntmps13
  go_wp2_with fail
  refine (lastStep_some base d pv sv ps ss (.func 47) (rectCaps s t) _ h hl).mono ?_
  rintro e w1 ⟨rfl, sv', hd, hf, ho⟩
  have HD : Hid (DocAt w1 base d pv sv' ps ss) := hd
  have HF : Hid (Fr (fun k => k = d ∨ sv.ownBlock = some k) w w1) := hf
  have HO : Hid (sv'.ownBlock = sv.ownBlock) := ho
  have HM1 : Hid (MapAt w1 b g cap W H P) := HM.out.kept hf (fun e => e.elim HB.out.1 HB.out.2.2.2.2.1) (fun e => e.elim HB.out.2.1 HB.out.2.2.2.2.2)
  have HM01 : Hid (MapAt w1 b0 g0 cap0 n1 n2 P0) := HM0.out.kept hf (fun e => e.elim HB0.out.1 HB0.out.2.2.2.2.1) (fun e => e.elim HB0.out.2.1 HB0.out.2.2.2.2.2)
  have HP1 : Hid (RectAt w1 s t b b0 q1 n1 q2 n2) := HPF.out w1 hf
  clear hd hf ho h
  obtain ⟨cs, HCS⟩ : ∃ cs, Hid (cs = rectCaps s t) := ⟨_, rfl⟩
  rw [← HCS.out]
  go_wp2_with fail
  have hfa : Fr (fun _ => False) w1 (w1.alloc (.cells #[.func (.func 47) #[] cs] 63)) := (Fr.refl _ _).alloc _
  have hcc := undo_rect b g cap W H b0 g0 cap0 P P0 s t q1 n1 q2 n2 _ (HM1.out.kept hfa (fun h => h) (fun h => h)) (HM01.out.kept hfa (fun h => h) (fun h => h)) (HP1.out.kept hfa (fun _ _ h => h)) hne hbg hgg hq1 hq2
  rw [← HCS.out] at hcc
  refine hcc.mono ?_
  rintro e w2 ⟨rfl, hm2, hf2⟩
  have HM2 : Hid (MapAt w2 b g cap W H (blitPix (opB 4) P P0 n1 n2 0 0 n1 n2 q1 q2)) := hm2
  have HF2 : Hid (Fr (fun k => k = g) w1 w2) := (hfa.mono (fun _ _ h => h.elim)).trans hf2 (fun _ _ h => h)
  clear hm2 hf2 hcc
  go_wp2_with fail
  go_ret
  refine ⟨rfl, sv', HD.out.kept HF2.out (fun e => HB.out.2.1 e.symm) (fun k hk e => HB.out.2.2.2.1 (by rw [hk, e])) (fun k hk e => HB.out.2.2.2.2.2 (by rw [← HO.out, hk, e])), HM2.out, (HF.out.mono (fun k _ h => h.elim Or.inl (fun h => Or.inr (Or.inl h)))).trans HF2.out (fun k _ h => Or.inr (Or.inr h)), HO.out⟩

theorem undo_rs (base d b g cap W H B : Nat) (P Q : Nat → Nat → Bool) (q1 n1 q2 n2 : Nat) (f pv sv : Value) (ps ss : List Value) (w : World) (h : DocAt w base d pv sv ps (ss ++ [f])) (hl : ss.length < 64) (hm : MapAt w b g cap W H Q) (hr : RS w B f b W H P q1 n1 q2 n2) (hbB : b < B) (hgB : g < B) :
    Calls Try.prog 13 #[.pointer (some ⟨d, 0, none⟩)] w fun e w' => e = .returned (.bool true) ∧ ∃ sv', DocAt w' base d pv sv' ps ss ∧ MapAt w' b g cap W H (undoPix P Q W H q1 n1 q2 n2) ∧ Fr (fun k => k = d ∨ sv.ownBlock = some k ∨ k = g) w w' ∧ sv'.ownBlock = sv.ownBlock := by
  obtain ⟨f1, f2, _⟩ := size_facts hm.wpos hm.hpos hm.area
  unfold undoPix
  rcases hr with ⟨hn, rfl⟩ | ⟨h1, h2, h3, h4, s, t, b0, g0, rfl, hra, hm0, k1, k2, k3, k4⟩
  · rw [if_pos hn]
    have hap := hm.apart h
    refine (undo_empty base d pv sv ps ss w h hl).mono ?_
    rintro e w' ⟨rfl, sv', hd, hf, ho⟩
    exact ⟨rfl, sv', hd, hm.kept hf (fun e => e.elim hap.1 hap.2.2.2.2.1) (fun e => e.elim hap.2.1 hap.2.2.2.2.2), hf.mono (fun k _ h => h.elim Or.inl (fun h => Or.inr (Or.inl h))), ho⟩
  · rw [if_neg (by omega)]
    exact undo_recto base d b g cap W H b0 g0 _ s t q1 n1 q2 n2 Q _ pv sv ps ss w h hl hm hm0 hra (by omega) (by omega) (by omega) (by omega) (by omega)
end Go.Proofs.Ytpblenebmjmijaa
