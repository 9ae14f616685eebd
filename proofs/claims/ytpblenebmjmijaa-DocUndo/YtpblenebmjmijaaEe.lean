/- 'Fill', 'Blit', 'Undo' of a rectangle. -/
import Derived.Test.YtpblenebmjmijaaEd
namespace Go.Proofs.Ytpblenebmjmijaa
set_option maxRecDepth 100000
open Go.RowKit

def I64 (x : Int) : Prop := -9223372036854775808 ≤ x ∧ x ≤ 9223372036854775807

set_option maxHeartbeats 2000000 in
theorem docFill_any (base d b g cap W H n bit : Nat) (P : Nat → Nat → Bool) (x y ww hh : Int) (pv sv : Value) (ps ss : List Value) (w : World) (h : DocAt w base d pv sv ps ss) (hm : MapAt w b g cap W H P) (hv : ps[n]? = some (.pointer (some ⟨b, 0, none⟩))) (hb : ps.length ≤ 64) (hl : ss.length ≤ 64) (hone : ∀ u ∈ ss, u.oneCell' = true) (hbit : bit ≤ 1)
    (b1 : I64 x) (b2 : I64 y) (b3 : 0 ≤ ww ∧ ww ≤ 9223372036854775807) (b4 : 0 ≤ hh ∧ hh ≤ 9223372036854775807) :
    Calls Try.prog 10 #[.pointer (some ⟨d, 0, none⟩), .int .i64 n, .int .i64 x, .int .i64 y, .int .i64 ww, .int .i64 hh, .int .i64 bit] w fun e w' => e = .returned (.int .i64 0) ∧ ∃ sv' fn caps p1 q1 n1 p2 q2 n2, DocAt w' base d pv sv' ps (cut ss ++ [.func fn #[] caps]) ∧ Clip x W x W ww p1 q1 n1 ∧ Clip y H y H hh p2 q2 n2 ∧ RS w' w.heap.size (.func fn #[] caps) b W H P q1 n1 q2 n2 ∧ MapAt w' b g cap W H (fillPix P x y ww hh (decide (bit = 1))) ∧ Fr (fun k => k = d ∨ sv.ownBlock = some k ∨ k = g) w w' ∧ (∀ k, sv'.ownBlock = some k → sv.ownBlock = some k ∨ w.heap.size ≤ k) := by
  have HD : Hid (DocAt w base d pv sv ps ss) := h
  have HM : Hid (MapAt w b g cap W H P) := hm
  have HB : Hid (b ≠ d ∧ g ≠ d ∧ pv.ownBlock ≠ some b ∧ pv.ownBlock ≠ some g ∧ sv.ownBlock ≠ some b ∧ sv.ownBlock ≠ some g) := hm.apart h
  have HONE : Hid (∀ u ∈ ss, u.oneCell' = true) := hone
  obtain ⟨f1, f2, _⟩ := size_facts hm.wpos hm.hpos hm.area
  have B1 : Hid (-9223372036854775808 ≤ x ∧ x ≤ 9223372036854775807) := b1
  have B2 : Hid (-9223372036854775808 ≤ y ∧ y ≤ 9223372036854775807) := b2
  clear h hm hone b1 b2
  go_enter Try.func10, Try.ntmps10
  go_wp2_with fail
  refine (page_in base d pv sv ps ss n _ _ HD.out hv hb).mono ?_
  rintro e w1 ⟨rfl, rfl⟩
  go_wp2_with fail
  refine (dbit_any bit _).mono ?_
  rintro e w2 ⟨rfl, rfl⟩
  rw [decide_eq_true (by omega)]
  go_wp2_with fail
  refine (size_any b g cap W H P _ HM.out).mono ?_
  rintro e w3 ⟨rfl, q, hw3⟩
  have HF3 : Hid (Fr (fun _ => False) w2 w3) := by rw [hw3]; exact (Fr.refl _ _).drewN q
  have hz3 : w3.heap.size = w2.heap.size := by rw [hw3]; rfl
  clear hw3
  go_wp2_with fail
  refine (dclip_any x x ww W W _ B1.out B1.out b3 f1 f1).mono ?_
  rintro e w4 ⟨p1, q1, n1, rfl, hc1, hf4⟩
  have HC1 : Hid (Clip x W x W ww p1 q1 n1) := hc1
  have HF4 : Hid (Fr (fun _ => False) w2 w4) := HF3.out.trans hf4 (fun _ _ h => h)
  clear hc1 hf4
  go_wp2_with fail
  refine (dclip_any y y hh H H _ B2.out B2.out b4 f2 f2).mono ?_
  rintro e w5 ⟨p2, q2, n2, rfl, hc2, hf5⟩
  have HC2 : Hid (Clip y H y H hh p2 q2 n2) := hc2
  have HF5 : Hid (Fr (fun _ => False) w2 w5) := HF4.out.trans hf5 (fun _ _ h => h)
  have hz5 := HF5.out.size
  clear hc2 hf5
  go_wp2_with fail
  refine (pixelsAgain_any b g cap W H P q1 n1 q2 n2 _ (HM.out.kept HF5.out (fun h => h) (fun h => h)) HC1.out.hb HC2.out.hb).mono ?_
  rintro e w6 ⟨fn, caps, rfl, hr6, hf6⟩
  have HR6 : Hid (RS w6 w5.heap.size (.func fn #[] caps) b W H P q1 n1 q2 n2) := hr6
  have HF6 : Hid (Fr (fun _ => False) w2 w6) := HF5.out.trans hf6 (fun _ _ h => h)
  have HZ6 : Hid (w5.heap.size ≤ w6.heap.size) := hf6.size
  have HD6 : Hid (DocAt w6 base d pv sv ps ss) := HD.out.kept HF6.out (fun h => h) (fun _ _ h => h) (fun _ _ h => h)
  have HM6 : Hid (MapAt w6 b g cap W H P) := HM.out.kept HF6.out (fun h => h) (fun h => h)
  clear hr6 hf6
  go_wp2_with fail
  refine (remember_any base d pv sv ps ss fn caps _ HD6.out hl HONE.out).mono ?_
  rintro e w7 ⟨rfl, sv', hd7, hf7, ho7⟩
  have HD7 : Hid (DocAt w7 base d pv sv' ps (cut ss ++ [.func fn #[] caps])) := hd7
  have HF7 : Hid (Fr (fun k => k = d ∨ sv.ownBlock = some k) w6 w7) := hf7
  have HO7 : Hid (∀ k, sv'.ownBlock = some k → sv.ownBlock = some k ∨ w6.heap.size ≤ k) := ho7
  have HM7 : Hid (MapAt w7 b g cap W H P) := HM6.out.kept hf7 (fun e => e.elim HB.out.1 HB.out.2.2.2.2.1) (fun e => e.elim HB.out.2.1 HB.out.2.2.2.2.2)
  clear hd7 hf7 ho7
  go_wp2_with fail
  refine (fill_any b g cap W H bit P x y ww hh _ HM7.out hbit B1.out B2.out b3 b4).mono ?_
  rintro e w8 ⟨rfl, hm8, hf8⟩
  have HM8 : Hid (MapAt w8 b g cap W H (fillPix P x y ww hh (decide (bit = 1)))) := hm8
  have HF8 : Hid (Fr (fun k => k = g) w7 w8) := hf8
  clear hm8 hf8
  go_wp2_with fail
  go_ret
  have hdl := HD.out.lt
  have hsl : ∀ k, sv.ownBlock = some k → k < w2.heap.size := fun k hk => (HD.out.st.lt k hk).2
  have hgl := HM.out.glt
  have hz6 := HZ6.out
  have hap := HM7.out.apart HD7.out
  have hrs : ∀ {B B' : Nat} {w : World} {f : Value} {b W H : Nat} {P : Nat → Nat → Bool} {q1 n1 q2 n2 : Nat}, RS w B f b W H P q1 n1 q2 n2 → B' ≤ B → RS w B' f b W H P q1 n1 q2 n2 := fun h hb => h.elim Or.inl (fun ⟨a1, a2, a3, a4, s, t, b0, g0, a5, a6, a7, k1, k2, k3, k4⟩ => Or.inr ⟨a1, a2, a3, a4, s, t, b0, g0, a5, a6, a7, by omega, by omega, by omega, by omega⟩)
  refine ⟨rfl, sv', fn, caps, p1, q1, n1, p2, q2, n2, HD7.out.kept HF8.out (fun e => HB.out.2.1 e.symm) (fun k hk e => HB.out.2.2.2.1 (by rw [hk, e])) (fun k hk e => hap.2.2.2.2.2 (by rw [hk, e])), HC1.out, HC2.out, hrs ((HR6.out.kept HF7.out (fun k hk _ e => ?_)).kept HF8.out (fun k hk _ e => by omega)) hz5, HM8.out, ?_, fun k hk => (HO7.out k hk).imp id (fun h => by omega)⟩
  · rcases e with e | e
    · omega
    · have := hsl _ e; omega
  · refine Fr.trans (HF6.out.mono (fun _ _ h => h.elim)) (Fr.trans (HF7.out.mono (fun k _ h => ?_)) HF8.out (fun k _ h => ?_)) (fun _ _ h => h)
    · exact h.elim Or.inl (fun h => Or.inr (Or.inl h))
    · exact Or.inr (Or.inr h)
end Go.Proofs.Ytpblenebmjmijaa
