/- 'Page', 'Set'. -/
import Derived.Test.YtpblenebmjmijaaDf
namespace Go.Proofs.Ytpblenebmjmijaa
set_option maxRecDepth 100000
open Go.RowKit

/-- A block of three cells that is written whole. -/
theorem set3d_block (w : World) (k : Nat) (x y z x' y' z' : Value) (t : TypeId) (h : w.heap[k]? = some (.cells #[x, y, z] t (0, 0))) :
    (((w.setCell ⟨k, 0, none⟩ x').setCell ⟨k, 1, none⟩ y').setCell ⟨k, 2, none⟩ z').heap[k]? = some (.cells #[x', y', z'] t (0, 0)) := by
  simp [World.setCell, Array.getElem?_modify, h]
theorem Fr.set3d {S : Nat → Prop} {w w' : World} (f : Fr S w w') (k : Nat) (hk : k < w.heap.size → S k) (x y z : Value) : Fr S w (((w'.setCell ⟨k, 0, none⟩ x).setCell ⟨k, 1, none⟩ y).setCell ⟨k, 2, none⟩ z) :=
  Fr.setCell (Fr.setCell (Fr.setCell f (p := ⟨k, 0, none⟩) hk _) (p := ⟨k, 1, none⟩) hk _) (p := ⟨k, 2, none⟩) hk _

set_option maxHeartbeats 1000000 in
theorem docPage_in (base d b g cap W H n : Nat) (P : Nat → Nat → Bool) (pv sv : Value) (ps ss : List Value) (w : World) (h : DocAt w base d pv sv ps ss) (hm : MapAt w b g cap W H P) (hv : ps[n]? = some (.pointer (some ⟨b, 0, none⟩))) (hb : ps.length ≤ 64) :
    Calls Try.prog 15 #[.pointer (some ⟨d, 0, none⟩), .int .i64 n] w fun e w' => ∃ g2 cap2, e = .returned (.tuple #[.agg #[.int .i64 W, .int .i64 H, .slice (some ⟨g2, 0, none⟩) (H * stride W) cap2], .int .i64 0]) ∧ w'.ownsRow 0 32 1 (.slice (some ⟨g2, 0, none⟩) (H * stride W) cap2) (H * stride W) (wordCells (render W H P)) ∧ Fr (fun _ => False) w w' ∧ w.heap.size ≤ g2 := by
  have HD : Hid (DocAt w base d pv sv ps ss) := h
  have HM : Hid (MapAt w b g cap W H P) := hm
  clear h hm
  go_enter Try.func15, Try.ntmps15
  go_wp2_with fail
  obtain ⟨w0, HW0⟩ : ∃ w0, Hid (w0 = w.alloc (.cells #[.int .i64 0, .int .i64 0, .slice none 0 0] 54)) := ⟨_, rfl⟩
  rw [← HW0.out]
  have HF0 : Hid (Fr (fun _ => False) w w0) := by rw [HW0.out]; exact (Fr.refl _ _).alloc _
  refine (page_in base d pv sv ps ss n _ _ (HD.out.kept HF0.out (fun h => h) (fun _ _ h => h) (fun _ _ h => h)) hv hb).mono ?_
  rintro e w1 ⟨rfl, rfl⟩
  go_wp2_with fail
  refine (plain_any b g cap W H P _ (HM.out.kept HF0.out (fun h => h) (fun h => h))).mono ?_
  rintro e w2 ⟨g2, cap2, rfl, ho, hf, hg⟩
  have HO : Hid (w2.ownsRow 0 32 1 (.slice (some ⟨g2, 0, none⟩) (H * stride W) cap2) (H * stride W) (wordCells (render W H P))) := ho
  have HF : Hid (Fr (fun _ => False) w1 w2) := hf
  have HG : Hid (w1.heap.size ≤ g2) := hg
  clear ho hf hg
  have hb2 : w2.heap[w.heap.size]? = some (.cells #[.int .i64 0, .int .i64 0, .slice none 0 0] 54 (0, 0)) := by
    rw [HF.out.block _ (by rw [HW0.out, World.size_alloc]; omega) (fun h => h), HW0.out]; exact heap_alloc_new w _
  obtain ⟨c0, c1, c2, cf⟩ := cell_of_three hb2
  have HB2 : Hid (w2.heap[w.heap.size]? = some (.cells #[.int .i64 0, .int .i64 0, .slice none 0 0] 54 (0, 0))) := hb2
  clear hb2
  go_wp2_with fail
  refine bodyPost_ret (results_box2 rfl _ _ w.heap.size 54 _ (0, 0) _ rfl (set3d_block _ _ _ _ _ _ _ _ _ HB2.out) Try.underlying54 rfl (by kernel_rfl)) rfl ?_
  have hsz := HF0.out.size
  have h0 : w1.heap.size = w.heap.size + 1 := by rw [HW0.out, World.size_alloc]
  have hg := HG.out
  have f3 : Fr (fun k => k = w.heap.size) w2 _ := Fr.set3d (Fr.refl (fun k => k = w.heap.size) w2) w.heap.size (fun _ => rfl) (.int .i64 W) (.int .i64 H) (.slice (some ⟨g2, 0, none⟩) (H * stride W) cap2)
  refine ⟨g2, cap2, rfl, row_kept HO.out f3 (fun k hk e => ?_), ?_, by omega⟩
  · simp [Value.ownBlock] at hk; omega
  · exact (Fr.set3d (HF0.out.trans HF.out (fun _ _ h => h)) w.heap.size (fun h => absurd h (by omega)) _ _ _)

set_option maxHeartbeats 1000000 in
theorem docSet_in (base d b g cap W H n x y bit : Nat) (P : Nat → Nat → Bool) (pv sv : Value) (ps ss : List Value) (w : World) (h : DocAt w base d pv sv ps ss) (hm : MapAt w b g cap W H P) (hv : ps[n]? = some (.pointer (some ⟨b, 0, none⟩))) (hb : ps.length ≤ 64) (hl : ss.length < 64) (hx : x < W) (hy : y < H) (hbit : bit ≤ 1) :
    Calls Try.prog 9 #[.pointer (some ⟨d, 0, none⟩), .int .i64 n, .int .i64 x, .int .i64 y, .int .i64 bit] w fun e w' => e = .returned (.int .i64 0) ∧ ∃ sv' s, DocAt w' base d pv sv' ps (ss ++ [.func (.func 40) #[] (pixCaps s)]) ∧ PixAt w' s b x y (P x y).toNat ∧ MapAt w' b g cap W H (laidAll P y x 1 fun _ => decide (bit = 1)) ∧ Fr (fun k => k = d ∨ sv.ownBlock = some k ∨ k = g) w w' ∧ w.heap.size ≤ s ∧ (∀ k, sv'.ownBlock = some k → sv.ownBlock = some k ∨ w.heap.size ≤ k) := by
  have HD : Hid (DocAt w base d pv sv ps ss) := h
  have HM : Hid (MapAt w b g cap W H P) := hm
  have HB : Hid (b ≠ d ∧ g ≠ d ∧ pv.ownBlock ≠ some b ∧ pv.ownBlock ≠ some g ∧ sv.ownBlock ≠ some b ∧ sv.ownBlock ≠ some g) := hm.apart h
  clear h hm
  go_enter Try.func9, Try.ntmps9
  go_wp2_with fail
  refine (page_in base d pv sv ps ss n _ _ HD.out hv hb).mono ?_
  rintro e w1 ⟨rfl, rfl⟩
  go_wp2_with fail
  refine (dinside_any b g cap W H P x y _ HM.out).mono ?_
  rintro e w2 ⟨rfl, q, rfl⟩
  rw [decide_eq_true (by omega)]
  have HDq : Hid (DocAt (w1.drewN q) base d pv sv ps ss) := HD.out.kept (S := fun _ => False) ((Fr.refl _ _).drewN q) (fun h => h) (fun _ _ h => h) (fun _ _ h => h)
  have HMq : Hid (MapAt (w1.drewN q) b g cap W H P) := HM.out.drewN q
  obtain ⟨w2, HW2⟩ : ∃ w2, Hid (w2 = w1.drewN q) := ⟨_, rfl⟩
  rw [← HW2.out] at HDq HMq ⊢
  have hz2 : w2.heap.size = w1.heap.size := by rw [HW2.out]; rfl
  have HF2 : Hid (Fr (fun _ => False) w1 w2) := by rw [HW2.out]; exact (Fr.refl _ _).drewN q
  go_wp2_with fail
  refine (dbit_any bit _).mono ?_
  rintro e w3 ⟨rfl, rfl⟩
  rw [decide_eq_true (by omega)]
  go_wp2_with fail
  refine (pixelAgain_in b g cap W H P x y _ HMq.out hx hy).mono ?_
  rintro e w4 ⟨rfl, hp, hf⟩
  have HP : Hid (PixAt w4 w3.heap.size b x y (P x y).toNat) := hp
  have HF : Hid (Fr (fun _ => False) w3 w4) := hf
  have HM4 : Hid (MapAt w4 b g cap W H P) := HMq.out.kept hf (fun h => h) (fun h => h)
  have HD4 : Hid (DocAt w4 base d pv sv ps ss) := HDq.out.kept hf (fun h => h) (fun _ _ h => h) (fun _ _ h => h)
  clear hp hf
  obtain ⟨cs, HCS⟩ : ∃ cs, Hid (cs = pixCaps w3.heap.size) := ⟨_, rfl⟩
  rw [← HCS.out]
  go_wp2_with fail
  refine (remember_room base d pv sv ps ss (.func 40) cs _ HD4.out hl).mono ?_
  rintro e w5 ⟨rfl, sv', hd5, hf5, ho5⟩
  have HD5 : Hid (DocAt w5 base d pv sv' ps (ss ++ [.func (.func 40) #[] cs])) := hd5
  have HF5 : Hid (Fr (fun k => k = d ∨ sv.ownBlock = some k) w4 w5) := hf5
  have HO5 : Hid (∀ k, sv'.ownBlock = some k → sv.ownBlock = some k ∨ w4.heap.size ≤ k) := ho5
  have HM5 : Hid (MapAt w5 b g cap W H P) := HM4.out.kept hf5 (fun e => e.elim HB.out.1 HB.out.2.2.2.2.1) (fun e => e.elim HB.out.2.1 HB.out.2.2.2.2.2)
  clear hd5 hf5 ho5
  go_wp2_with fail
  refine (set_in b g cap W H P x y bit _ HM5.out hx hy hbit).mono ?_
  rintro e w6 ⟨rfl, hm6, hf6⟩
  have HM6 : Hid (MapAt w6 b g cap W H (laidAll P y x 1 fun _ => decide (bit = 1))) := hm6
  have HF6 : Hid (Fr (fun k => k = g) w5 w6) := hf6
  clear hm6 hf6
  go_wp2_with fail
  go_ret
  have hs34 := HF.out.size
  have hdl := HD.out.lt
  have hsl : ∀ k, sv.ownBlock = some k → k < w1.heap.size := fun k hk => (HD.out.st.lt k hk).2
  have hgl := HM.out.glt
  have hap := HM5.out.apart HD5.out
  rw [HCS.out] at HD5
  refine ⟨rfl, sv', w3.heap.size, HD5.out.kept HF6.out (fun e => HB.out.2.1 e.symm) (fun k hk e => HB.out.2.2.2.1 (by rw [hk, e])) (fun k hk e => hap.2.2.2.2.2 (by rw [hk, e])), (HP.out.kept HF5.out (fun j _ e => ?_)).kept HF6.out (fun j _ e => ?_), HM6.out, ?_, by omega, fun k hk => (HO5.out k hk).imp id (fun h => by omega)⟩
  · rcases e with e | e
    · omega
    · have := hsl _ e; omega
  · omega
  · refine Fr.trans (HF2.out.mono (fun _ _ h => h.elim)) (Fr.trans (HF.out.mono (fun _ _ h => h.elim)) (Fr.trans (HF5.out.mono (fun k _ h => ?_)) HF6.out (fun k _ h => ?_)) (fun _ _ h => h)) (fun _ _ h => h)
    · exact h.elim Or.inl (fun h => Or.inr (Or.inl h))
    · exact Or.inr (Or.inr h)
end Go.Proofs.Ytpblenebmjmijaa
