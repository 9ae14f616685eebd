/- Seven maps and an eighth: what is done to one leaves the others. -/
import Derived.Test.YtcopbjinnegfoaaInvert
import Derived.Test.YtcopbjinnegfoaaRefPut
import Derived.Test.YtcopbjinnegfoaaSame
namespace Go.Proofs.Ytcopbjinnegfoaa
open Go.RowKit

theorem full_pix (op W H : Nat) (Q S : Nat → Nat → Bool) : ∀ a e, a < W → e < H → blitPix (opB op) Q S W H 0 0 W H 0 0 a e = opB op (Q a e) (S a e) := by
  intro a e ha he
  unfold blitPix
  rw [if_pos ⟨⟨by omega, by omega, by omega, by omega⟩, by omega, by omega, by omega, by omega⟩]
  rw [Int.sub_zero, Int.sub_zero, Int.zero_add, Int.zero_add]
  rfl

/-- Which blocks may be written: the words of the eight maps. -/
def Wr (gs : Nat → Nat) (gt : Nat) (k : Nat) : Prop := (∃ j, j < 7 ∧ k = gs j) ∨ k = gt

structure Names (bs gs : Nat → Nat) (bt gt : Nat) : Prop where
  gg : ∀ i j, i < 7 → j < 7 → i ≠ j → gs i ≠ gs j
  bg : ∀ i j, i < 7 → j < 7 → bs i ≠ gs j
  bt' : ∀ j, j < 7 → bt ≠ gs j ∧ gt ≠ gs j ∧ bs j ≠ gt ∧ bt ≠ bs j

structure St (w : World) (bs gs cs : Nat → Nat) (bt gt ct W H : Nat) (Q : Nat → Nat → Nat → Bool) (Qt : Nat → Nat → Bool) : Prop where
  maps : ∀ j, j < 7 → MapAt w (bs j) (gs j) (cs j) W H (Q j)
  t : MapAt w bt gt ct W H Qt

def upd (Q : Nat → Nat → Nat → Bool) (j : Nat) (R : Nat → Nat → Bool) : Nat → Nat → Nat → Bool := fun i => if i = j then R else Q i
theorem upd_same (Q : Nat → Nat → Nat → Bool) (j : Nat) (R : Nat → Nat → Bool) : upd Q j R j = R := if_pos rfl
theorem upd_other (Q : Nat → Nat → Nat → Bool) {i j : Nat} (R : Nat → Nat → Bool) (h : i ≠ j) : upd Q j R i = Q i := if_neg h

theorem St.kept {w w' : World} {bs gs cs : Nat → Nat} {bt gt ct W H : Nat} {Q : Nat → Nat → Nat → Bool} {Qt : Nat → Nat → Bool} (h : St w bs gs cs bt gt ct W H Q Qt) (f : Fr (fun _ => False) w w') : St w' bs gs cs bt gt ct W H Q Qt :=
  ⟨fun j hj => (h.maps j hj).kept f (fun x => x) (fun x => x), h.t.kept f (fun x => x) (fun x => x)⟩
theorem St.put {w w' : World} {bs gs cs : Nat → Nat} {bt gt ct W H : Nat} {Q : Nat → Nat → Nat → Bool} {Qt R : Nat → Nat → Bool} (h : St w bs gs cs bt gt ct W H Q Qt) (hN : Names bs gs bt gt) {j : Nat} (hj : j < 7) (f : Fr (fun k => k = gs j) w w') (hm : MapAt w' (bs j) (gs j) (cs j) W H R) : St w' bs gs cs bt gt ct W H (upd Q j R) Qt := by
  refine ⟨fun i hi => ?_, h.t.kept f (hN.bt' j hj).1 (hN.bt' j hj).2.1⟩
  by_cases e : i = j
  · subst e; rw [upd_same]; exact hm
  · rw [upd_other _ _ e]
    exact (h.maps i hi).kept f (hN.bg i j hi hj) (hN.gg i j hi hj e)
theorem St.putT {w w' : World} {bs gs cs : Nat → Nat} {bt gt ct W H : Nat} {Q : Nat → Nat → Nat → Bool} {Qt R : Nat → Nat → Bool} (h : St w bs gs cs bt gt ct W H Q Qt) (hN : Names bs gs bt gt) (f : Fr (fun k => k = gt) w w') (hm : MapAt w' bt gt ct W H R) : St w' bs gs cs bt gt ct W H Q R :=
  ⟨fun i hi => (h.maps i hi).kept f (hN.bt' i hi).2.2.1 (fun e => (hN.bt' i hi).2.1 e.symm), hm⟩

theorem St.blit {w : World} {bs gs cs : Nat → Nat} {bt gt ct W H : Nat} {Q : Nat → Nat → Nat → Bool} {Qt : Nat → Nat → Bool} (h : St w bs gs cs bt gt ct W H Q Qt) (hN : Names bs gs bt gt) {j op : Nat} (hj : j < 7) (hop : op ≤ 4) :
    Calls Try.prog 18 #[.pointer (some ⟨bs j, 0, none⟩), .pointer (some ⟨bt, 0, none⟩), .int .i64 0, .int .i64 0, .int .i64 W, .int .i64 H, .int .i64 0, .int .i64 0, .int .i64 op] w fun e w' => e = .returned (.int .i64 0) ∧ St w' bs gs cs bt gt ct W H (upd Q j (fun a e => opB op (Q j a e) (Qt a e))) Qt ∧ Fr (Wr gs gt) w w' := by
  obtain ⟨f1, f2, f3⟩ := size_facts h.t.wpos h.t.hpos h.t.area
  obtain ⟨n1, n2, n3, n4⟩ := hN.bt' j hj
  refine (blit_other op (bs j) (gs j) (cs j) W H bt gt ct W H (Q j) Qt 0 0 W H 0 0 w (h.maps j hj) h.t hop n4 n1 n2 (by omega) (by omega) (by omega) (by omega) (by omega) (by omega)).mono ?_
  rintro e w' ⟨he, hm, hf⟩
  exact ⟨he, h.put hN hj hf (hm.pix (full_pix op W H (Q j) Qt)), hf.mono (fun i _ e => Or.inl ⟨j, hj, e⟩)⟩
theorem St.invert {w : World} {bs gs cs : Nat → Nat} {bt gt ct W H : Nat} {Q : Nat → Nat → Nat → Bool} {Qt : Nat → Nat → Bool} (h : St w bs gs cs bt gt ct W H Q Qt) (hN : Names bs gs bt gt) {j : Nat} (hj : j < 7) :
    Calls Try.prog 26 #[.pointer (some ⟨bs j, 0, none⟩)] w fun e w' => e = .returned (.tuple #[]) ∧ St w' bs gs cs bt gt ct W H (upd Q j (fun a e => !Q j a e)) Qt ∧ Fr (Wr gs gt) w w' := by
  refine (invert_any (bs j) (gs j) (cs j) W H (Q j) w (h.maps j hj)).mono ?_
  rintro e w' ⟨he, hm, hf⟩
  exact ⟨he, h.put hN hj hf hm, hf.mono (fun i _ e => Or.inl ⟨j, hj, e⟩)⟩
theorem St.invertT {w : World} {bs gs cs : Nat → Nat} {bt gt ct W H : Nat} {Q : Nat → Nat → Nat → Bool} {Qt : Nat → Nat → Bool} (h : St w bs gs cs bt gt ct W H Q Qt) (hN : Names bs gs bt gt) :
    Calls Try.prog 26 #[.pointer (some ⟨bt, 0, none⟩)] w fun e w' => e = .returned (.tuple #[]) ∧ St w' bs gs cs bt gt ct W H Q (fun a e => !Qt a e) ∧ Fr (Wr gs gt) w w' := by
  refine (invert_any bt gt ct W H Qt w h.t).mono ?_
  rintro e w' ⟨he, hm, hf⟩
  exact ⟨he, h.putT hN hf hm, hf.mono (fun i _ e => Or.inr e)⟩
theorem St.same {w : World} {bs gs cs : Nat → Nat} {bt gt ct W H : Nat} {Q : Nat → Nat → Nat → Bool} {Qt R : Nat → Nat → Bool} (h : St w bs gs cs bt gt ct W H Q Qt) {j : Nat} (hj : j < 7) (v : Value) (hv : Seen w v (render W H R)) (hR : ∀ a e, a < W → e < H → Q j a e = R a e) :
    Calls Try.prog 19 #[.pointer (some ⟨bs j, 0, none⟩), .agg #[.int .i64 W, .int .i64 H, v]] w fun e w' => e = .returned (.bool true) ∧ Fr (fun _ => False) w w' := by
  have := same_any (bs j) (gs j) (cs j) W H (Q j) W H v (render W H R) w (h.maps j hj) hv
  have hsb : sameB W H (Q j) W H (render W H R) = true := by
    unfold sameB eqB
    rw [render_congr hR]
    simp
  rw [hsb] at this
  exact this

theorem or_and_cnt (W H : Nat) (P S : Nat → Nat → Bool) : cnt W H (fun a e => opB 0 (P a e) (S a e)) + cnt W H (fun a e => opB 1 (P a e) (S a e)) = cnt W H P + cnt W H S := by
  unfold cnt
  rw [← sumTo_plus, ← sumTo_plus]
  apply sumTo_congr
  intro y _
  rw [← sumTo_plus, ← sumTo_plus]
  apply sumTo_congr
  intro x _
  dsimp only
  generalize P x y = p
  generalize S x y = s
  cases p <;> cases s <;> decide
theorem or_xor_cnt (W H : Nat) (P S : Nat → Nat → Bool) : cnt W H (fun a e => opB 0 (P a e) (S a e)) = cnt W H (fun a e => opB 1 (P a e) (S a e)) + cnt W H (fun a e => opB 2 (P a e) (S a e)) := by
  unfold cnt
  rw [← sumTo_plus]
  apply sumTo_congr
  intro y _
  rw [← sumTo_plus]
  apply sumTo_congr
  intro x _
  dsimp only
  generalize P x y = p
  generalize S x y = s
  cases p <;> cases s <;> decide


end Go.Proofs.Ytcopbjinnegfoaa
