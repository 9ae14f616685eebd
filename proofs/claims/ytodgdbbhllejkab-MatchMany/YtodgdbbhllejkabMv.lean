/- What the program's measures and the document's own answer to any bitmap, and to any two. -/
import Derived.Test.YtodgdbbhllejkabMt
import Derived.Test.YtodgdbbhllejkabOp
namespace Go.Proofs.Ytodgdbbhllejkab
open Go.RowKit Ieee

theorem vb_of {x y : Int} {l : List Nat} (hlt : ∀ j : Nat, l[j]?.getD 0 < 18446744073709551616) (hval : validB x y l = true) :
    ∃ (W H : Nat) (P : Nat → Nat → Bool), x = W ∧ y = H ∧ l = render W H P ∧ W ≤ 1048576 ∧ H ≤ 1048576 ∧ ∀ (w : World) (v : Value), Seen w v l → Vb w v W H P := by
  have hv' := hval
  unfold validB at hv'
  simp only [Bool.and_eq_true, decide_eq_true_eq] at hv'
  obtain ⟨⟨hs, hl⟩, hr⟩ := hv'
  unfold sizeOK at hs
  obtain ⟨s1, s2, s3⟩ := of_decide_eq_true hs
  obtain ⟨W, rfl⟩ : ∃ W : Nat, x = W := ⟨x.toNat, by omega⟩
  obtain ⟨H, rfl⟩ : ∃ H : Nat, y = H := ⟨y.toNat, by omega⟩
  have e := valid_render W H l (by omega) hl hr hlt
  have s4 : W * H ≤ 1048576 := by rw [← Int.natCast_mul] at s3; omega
  obtain ⟨f1, f2, f3⟩ := size_facts (W := W) (H := H) (by omega) (by omega) s4
  exact ⟨W, H, pixOf W l, rfl, rfl, e, f1, f2, fun w v hv => ⟨by rw [← e]; exact hv, by omega, by omega, s4, by rw [← e]; exact hval⟩⟩

theorem inf_share : ShP (1 : Int) (0 : Int) 9218868437227405312 := ⟨by decide, Or.inl (by rw [div_by_zero rfl (by decide)]; rfl)⟩