/- What the program's measures and the document's own answer to any bitmap, and to any two. -/
import Derived.Test.YtodgdbbhllejkaaMt
import Derived.Test.YtodgdbbhllejkaaOp
namespace Go.Proofs.Ytodgdbbhllejkaa
open Go.RowKit Ieee

theorem vb_of {x y : Int} {l : List Nat} (hlt : ∀ j : Nat, l[j]?.getD 0 < 18446744073709551616) (hval : validB x y l = true) :
    ∃ (W H : Nat) (P : Nat → Nat → Bool), x = W ∧ y = H ∧ l = render W H P ∧ W ≤ 1048576 ∧ H ≤ 1048576 ∧ ∀ (w : World) (v : Value), Seen w v l → Vb w v W H P := by
  have hv' := hval
  unfold validB at hv'
  simp only [Bool.and_eq_true, decide_eq_true_eq] at hv'
  obtain ⟨⟨hs, hl⟩, hr⟩ := hv'
  unfold sizeOK at hs
  obtain ⟨s1, s2, s3⟩ := of_decide_eq_true hs
  obtain ⟨W, rfl⟩ : ∃ W : Nat, x = W := ⟨x.toNat, by omega⟩
  obtain ⟨H, rfl⟩ : ∃ H : Nat, y = H := ⟨y.toNat, by omega⟩
  have e := valid_render W H l (by omega) hl hr hlt
  have s4 : W * H ≤ 1048576 := by rw [← Int.natCast_mul] at s3; omega
  obtain ⟨f1, f2, f3⟩ := size_facts (W := W) (H := H) (by omega) (by omega) s4
  exact ⟨W, H, pixOf W l, rfl, rfl, e, f1, f2, fun w v hv => ⟨by rw [← e]; exact hv, by omega, by omega, s4, by rw [← e]; exact hval⟩⟩

theorem inf_share : ShP (1 : Int) (0 : Int) 9218868437227405312 := ⟨by decide, Or.inl (by rw [div_by_zero rfl (by decide)]; rfl)⟩

/-- Unlike of any two bitmaps: refused with a nought, or the document's own. -/
theorem un_all (x y x' y' : Int) (l l' : List Nat) (hx : -9223372036854775808 ≤ x ∧ x ≤ 9223372036854775807) (hy : -9223372036854775808 ≤ y ∧ y ≤ 9223372036854775807) (hx' : -9223372036854775808 ≤ x' ∧ x' ≤ 9223372036854775807) (hy' : -9223372036854775808 ≤ y' ∧ y' ≤ 9223372036854775807) (hlt : ∀ j : Nat, l[j]?.getD 0 < 18446744073709551616) (hlt' : ∀ j : Nat, l'[j]?.getD 0 < 18446744073709551616) :
    ∃ (er : Int) (PU : Nat → Prop),
      (∀ (w : World) (v v' : Value), Seen w v l → Seen w v' l' → Calls Try.prog 25 #[.agg #[.int .i64 x, .int .i64 y, v], .agg #[.int .i64 x', .int .i64 y', v']] w fun e w' => ∃ a, e = .returned (.tuple #[.float .f64 a, .int .i64 er]) ∧ PU a ∧ Fr (fun _ => False) w w') ∧
      (((validB x y l = false ∨ validB x' y' l' = false) ∧ er = 101 ∧ (∀ a, PU a → a = 0)) ∨
       ((validB x y l = true ∧ validB x' y' l' = true) ∧ er = 0 ∧
        (∀ (w : World) (v v' : Value), Seen w v l → Seen w v' l' → Calls Try.prog 29 #[.agg #[.int .i64 x, .int .i64 y, v], .agg #[.int .i64 x', .int .i64 y', v']] w fun e w' => ∃ q, e = .returned (.float .f64 q) ∧ (∀ a, PU a → sameB a q = true) ∧ Fr (fun _ => False) w w'))) := by
  by_cases hb : validB x y l = false ∨ validB x' y' l' = false
  · exact ⟨101, (· = 0), fun w v v' hv hv' => (unlike_bad x y x' y' v v' l l' w hv hlt hv' hlt' hb hx hy hx' hy').mono (fun e w' h => ⟨0, h.1, rfl, h.2⟩), Or.inl ⟨hb, rfl, fun _ h => h⟩⟩
  · have h1 : validB x y l = true := by cases h : validB x y l <;> simp_all
    have h2 : validB x' y' l' = true := by cases h : validB x' y' l' <;> simp_all
    obtain ⟨W, H, P, rfl, rfl, e, f1, f2, hvb⟩ := vb_of hlt h1
    obtain ⟨W', H', Q, rfl, rfl, e', f1', f2', hvb'⟩ := vb_of hlt' h2
    by_cases hs : W = W' ∧ H = H'
    · obtain ⟨rfl, rfl⟩ := hs
      refine ⟨0, ShP ((unl W H P Q : Nat) : Int) ((W * H : Nat) : Int), fun w v v' hv hv' => unlike_ok W H v v' P Q w (hvb w v hv) (hvb' w v' hv'), Or.inr ⟨⟨h1, h2⟩, rfl, fun w v v' hv hv' => ?_⟩⟩
      exact (runlike_ok W H v v' P Q w (hvb w v hv) (hvb' w v' hv')).mono (fun e w' ⟨q, he, hq, hf⟩ => ⟨q, he, fun a ha => ha.same hq, hf⟩)
    · have hne : W ≠ W' ∨ H ≠ H' := by by_cases h : W = W' <;> simp_all
      refine ⟨0, ShP (1 : Int) (0 : Int), fun w v v' hv hv' => ?_, Or.inr ⟨⟨h1, h2⟩, rfl, fun w v v' hv hv' => ?_⟩⟩
      · exact (unlike_far W H W' H' v v' P Q w (hvb w v hv) (hvb' w v' hv') hne).mono (fun e w' h => ⟨_, h.1, inf_share, h.2⟩)
      · exact (runlike_far W H W' H' v v' w hne).mono (fun e w' ⟨q, he, hq, hf⟩ => ⟨q, he, fun a ha => ha.same hq, hf⟩)
end Go.Proofs.Ytodgdbbhllejkaa
