/- What is done, whatever is remembered: 'Set', 'Fill', 'Blit', and 'Undo' of a rectangle. -/
import Derived.Test.YtpblenebmjmijaaEc
namespace Go.Proofs.Ytpblenebmjmijaa
set_option maxRecDepth 100000
open Go.RowKit

/-- What stays of the steps where one more comes. -/
def cut (ss : List Value) : List Value := if ss.length = 64 then ss.tail else ss
theorem cut_len {ss : List Value} (h : ss.length ≤ 64) : (cut ss).length < 64 := by
  unfold cut; split
  · simp; omega
  · omega
theorem cut_one {ss : List Value} (h : ∀ u ∈ ss, u.oneCell' = true) : ∀ u ∈ cut ss, u.oneCell' = true := by
  unfold cut; split
  · exact fun u hu => h u (List.mem_of_mem_tail hu)
  · exact h

theorem remember_any (base d : Nat) (pv sv : Value) (ps ss : List Value) (fn : Fn) (caps : Array Value) (w : World) (h : DocAt w base d pv sv ps ss) (hl : ss.length ≤ 64) (hone : ∀ u ∈ ss, u.oneCell' = true) :
    Calls Try.prog 18 #[.pointer (some ⟨d, 0, none⟩), .agg #[.func fn #[] caps]] w fun e w' => e = .returned (.tuple #[]) ∧ ∃ sv', DocAt w' base d pv sv' ps (cut ss ++ [.func fn #[] caps]) ∧ Fr (fun k => k = d ∨ sv.ownBlock = some k) w w' ∧ (∀ k, sv'.ownBlock = some k → sv.ownBlock = some k ∨ w.heap.size ≤ k) := by
  unfold cut
  by_cases h64 : ss.length = 64
  · rw [if_pos h64]
    cases ss with
    | nil => simp at h64
    | cons x xs => exact remember_full base d pv sv x ps xs fn caps w h (by simpa using h64) (fun u hu => hone u (List.mem_cons_of_mem _ hu))
  · rw [if_neg h64]
    exact remember_room base d pv sv ps ss fn caps w h (by omega)

set_option maxHeartbeats 1000000 in
theorem docSet_any (base d b g cap W H n x y bit : Nat) (P : Nat → Nat → Bool) (pv sv : Value) (ps ss : List Value) (w : World) (h : DocAt w base d pv sv ps ss) (hm : MapAt w b g cap W H P) (hv : ps[n]? = some (.pointer (some ⟨b, 0, none⟩))) (hb : ps.length ≤ 64) (hl : ss.length ≤ 64) (hone : ∀ u ∈ ss, u.oneCell' = true) (hx : x < W) (hy : y < H) (hbit : bit ≤ 1) :
    Calls Try.prog 9 #[.pointer (some ⟨d, 0, none⟩), .int .i64 n, .int .i64 x, .int .i64 y, .int .i64 bit] w fun e w' => e = .returned (.int .i64 0) ∧ ∃ sv' s, DocAt w' base d pv sv' ps (cut ss ++ [.func (.func 40) #[] (pixCaps s)]) ∧ PixAt w' s b x y (P x y).toNat ∧ MapAt w' b g cap W H (laidAll P y x 1 fun _ => decide (bit = 1)) ∧ Fr (fun k => k = d ∨ sv.ownBlock = some k ∨ k = g) w w' ∧ w.heap.size ≤ s ∧ (∀ k, sv'.ownBlock = some k → sv.ownBlock = some k ∨ w.heap.size ≤ k) := by
  have HD : Hid (DocAt w base d pv sv ps ss) := h
  have HM : Hid (MapAt w b g cap W H P) := hm
  have HB : Hid (b ≠ d ∧ g ≠ d ∧ pv.ownBlock ≠ some b ∧ pv.ownBlock ≠ some g ∧ sv.ownBlock ≠ some b ∧ sv.ownBlock ≠ some g) := hm.apart h
  clear h hm
  go_enter Try.func9, Try.ntmps9
  go_wp2_with fail
  refine (page_in base d pv sv ps ss n _ _ HD.out hv hb).mono ?_
  rintro e w1 ⟨rfl, rfl⟩
  go_wp2_with fail
  refine (dinside_any b g cap W H P x y _ HM.out).mono ?_
  rintro e w2 ⟨rfl, q, rfl⟩
  rw [decide_eq_true (by omega)]
  have HDq : Hid (DocAt (w1.drewN q) base d pv sv ps ss) := HD.out.kept (S := fun _ => False) ((Fr.refl _ _).drewN q) (fun h => h) (fun _ _ h => h) (fun _ _ h => h)
  have HMq : Hid (MapAt (w1.drewN q) b g cap W H P) := HM.out.drewN q
  obtain ⟨w2, HW2⟩ : ∃ w2, Hid (w2 = w1.drewN q) := ⟨_, rfl⟩
  rw [← HW2.out] at HDq HMq ⊢
  have hz2 : w2.heap.size = w1.heap.size := by rw [HW2.out]; rfl
  have HF2 : Hid (Fr (fun _ => False) w1 w2) := by rw [HW2.out]; exact (Fr.refl _ _).drewN q
  go_wp2_with fail
  refine (dbit_any bit _).mono ?_
  rintro e w3 ⟨rfl, rfl⟩
  rw [decide_eq_true (by omega)]
  go_wp2_with fail
  refine (pixelAgain_in b g cap W H P x y _ HMq.out hx hy).mono ?_
  rintro e w4 ⟨rfl, hp, hf⟩
  have HP : Hid (PixAt w4 w3.heap.size b x y (P x y).toNat) := hp
  have HF : Hid (Fr (fun _ => False) w3 w4) := hf
  have HM4 : Hid (MapAt w4 b g cap W H P) := HMq.out.kept hf (fun h => h) (fun h => h)
  have HD4 : Hid (DocAt w4 base d pv sv ps ss) := HDq.out.kept hf (fun h => h) (fun _ _ h => h) (fun _ _ h => h)
  clear hp hf
  obtain ⟨cs, HCS⟩ : ∃ cs, Hid (cs = pixCaps w3.heap.size) := ⟨_, rfl⟩
  rw [← HCS.out]
  go_wp2_with fail
  refine (remember_any base d pv sv ps ss (.func 40) cs _ HD4.out hl hone).mono ?_
  rintro e w5 ⟨rfl, sv', hd5, hf5, ho5⟩
  have HD5 : Hid (DocAt w5 base d pv sv' ps (cut ss ++ [.func (.func 40) #[] cs])) := hd5
  have HF5 : Hid (Fr (fun k => k = d ∨ sv.ownBlock = some k) w4 w5) := hf5
  have HO5 : Hid (∀ k, sv'.ownBlock = some k → sv.ownBlock = some k ∨ w4.heap.size ≤ k) := ho5
  have HM5 : Hid (MapAt w5 b g cap W H P) := HM4.out.kept hf5 (fun e => e.elim HB.out.1 HB.out.2.2.2.2.1) (fun e => e.elim HB.out.2.1 HB.out.2.2.2.2.2)
  clear hd5 hf5 ho5
  go_wp2_with fail
  refine (set_in b g cap W H P x y bit _ HM5.out hx hy hbit).mono ?_
  rintro e w6 ⟨rfl, hm6, hf6⟩
  have HM6 : Hid (MapAt w6 b g cap W H (laidAll P y x 1 fun _ => decide (bit = 1))) := hm6
  have HF6 : Hid (Fr (fun k => k = g) w5 w6) := hf6
  clear hm6 hf6
  go_wp2_with fail
  go_ret
  have hs34 := HF.out.size
  have hdl := HD.out.lt
  have hsl : ∀ k, sv.ownBlock = some k → k < w1.heap.size := fun k hk => (HD.out.st.lt k hk).2
  have hgl := HM.out.glt
  have hap := HM5.out.apart HD5.out
  rw [HCS.out] at HD5
  refine ⟨rfl, sv', w3.heap.size, HD5.out.kept HF6.out (fun e => HB.out.2.1 e.symm) (fun k hk e => HB.out.2.2.2.1 (by rw [hk, e])) (fun k hk e => hap.2.2.2.2.2 (by rw [hk, e])), (HP.out.kept HF5.out (fun j _ e => ?_)).kept HF6.out (fun j _ e => ?_), HM6.out, ?_, by omega, fun k hk => (HO5.out k hk).imp id (fun h => by omega)⟩
  · rcases e with e | e
    · omega
    · have := hsl _ e; omega
  · omega
  · refine Fr.trans (HF2.out.mono (fun _ _ h => h.elim)) (Fr.trans (HF.out.mono (fun _ _ h => h.elim)) (Fr.trans (HF5.out.mono (fun k _ h => ?_)) HF6.out (fun k _ h => ?_)) (fun _ _ h => h)) (fun _ _ h => h)
    · exact h.elim Or.inl (fun h => Or.inr (Or.inl h))
    · exact Or.inr (Or.inr h)

/-- A rectangle's step: what it takes back, if it comes to any pixel. -/
def RS (w : World) (B : Nat) (f : Value) (b W H : Nat) (P : Nat → Nat → Bool) (q1 n1 q2 n2 : Nat) : Prop :=
  ((n1 = 0 ∨ n2 = 0) ∧ f = .func (.func 45) #[] #[]) ∨
  (1 ≤ n1 ∧ 1 ≤ n2 ∧ q1 + n1 ≤ W ∧ q2 + n2 ≤ H ∧ ∃ s t b0 g0, f = .func (.func 47) #[] (rectCaps s t) ∧ RectAt w s t b b0 q1 n1 q2 n2 ∧ MapAt w b0 g0 (n2 * stride n1) n1 n2 (cropPix W H P q1 q2) ∧ B ≤ s ∧ B ≤ t ∧ B ≤ b0 ∧ B ≤ g0)
theorem RS.kept {S : Nat → Prop} {w w' : World} {B : Nat} {f : Value} {b W H : Nat} {P : Nat → Nat → Bool} {q1 n1 q2 n2 : Nat} (h : RS w B f b W H P q1 n1 q2 n2) (fr : Fr S w w') (hs : ∀ k, B ≤ k → k < w.heap.size → ¬ S k) : RS w' B f b W H P q1 n1 q2 n2 := by
  rcases h with h | ⟨h1, h2, h3, h4, s, t, b0, g0, hf, hr, hm, k1, k2, k3, k4⟩
  · exact Or.inl h
  · have l0 := lt_of_block hr.c0
    have l1 := lt_of_block hr.c1
    have l2 := lt_of_block hr.c2
    have l3 := lt_of_block hr.c3
    exact Or.inr ⟨h1, h2, h3, h4, s, t, b0, g0, hf, hr.kept fr (fun k hk => by
      rcases hk with rfl | rfl | rfl | rfl
      · exact hs _ k1 l0
      · exact hs _ k2 l1
      · exact hs _ (by omega) l2
      · exact hs _ (by omega) l3), hm.kept fr (hs _ k3 hm.lt) (hs _ k4 hm.glt), k1, k2, k3, k4⟩

theorem pixelsAgain_any (b g cap W H : Nat) (P : Nat → Nat → Bool) (q1 n1 q2 n2 : Nat) (w : World) (h : MapAt w b g cap W H P) (hq1 : q1 + n1 ≤ W) (hq2 : q2 + n2 ≤ H) :
    Calls Try.prog 27 #[.pointer (some ⟨b, 0, none⟩), .agg #[.int .i64 q1, .int .i64 n1], .agg #[.int .i64 q2, .int .i64 n2]] w fun e w' => ∃ fn caps, e = .returned (.agg #[.func fn #[] caps]) ∧ RS w' w.heap.size (.func fn #[] caps) b W H P q1 n1 q2 n2 ∧ Fr (fun _ => False) w w' := by
  by_cases hn : n1 = 0 ∨ n2 = 0
  · refine (pixelsAgain_none b q1 n1 q2 n2 w hn).mono ?_
    rintro e w' ⟨rfl, hf⟩
    exact ⟨_, _, rfl, Or.inl ⟨hn, rfl⟩, hf⟩
  · refine (pixelsAgain_some b g cap W H P q1 n1 q2 n2 w h (by omega) (by omega) hq1 hq2).mono ?_
    rintro e w' ⟨t, b0, g0, rfl, hr, hm, hf, k1, k2, k3⟩
    exact ⟨_, _, rfl, Or.inr ⟨by omega, by omega, hq1, hq2, _, t, b0, g0, rfl, hr, hm, Nat.le_refl _, k1, k2, k3⟩, hf⟩
end Go.Proofs.Ytpblenebmjmijaa
