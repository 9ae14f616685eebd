/- 'PageExact': what both pages answer, side by side. -/
import Derived.Test.YtejempbgpkeheaaPa
import Derived.Test.YtejempbgpkeheaaPe
import Derived.Test.YtejempbgpkeheaaRb
import Derived.Test.YtejempbgpkeheaaRe
import Derived.Test.YtejempbgpkeheaaRs
import Derived.Test.YtejempbgpkeheaaSq
import Derived.Test.YtejempbgpkeheaaLe
import Derived.Test.YtejempbgpkeheaaFr2
namespace Go.Proofs.Ytejempbgpkeheaa
set_option maxRecDepth 100000
open Go.RowKit

/-- The program's page, ended or not. -/
def QX (w : World) (p b g cap W H d s n : Nat) (dn : Bool) (P : Nat → Nat → Bool) : Prop := (dn = false ∧ PgAt w p b g cap W H d s n P) ∨ (dn = true ∧ n = H ∧ PgEnd w p W H d s)
theorem QX.kept {S : Nat → Prop} {w w' : World} {p b g cap W H d s n : Nat} {dn : Bool} {P : Nat → Nat → Bool} (h : QX w p b g cap W H d s n dn P) (f : Fr S w w') (h1 : ¬ S p) (h2 : ¬ S b) (h3 : ¬ S g) : QX w' p b g cap W H d s n dn P := by
  rcases h with ⟨e, h⟩ | ⟨e, e2, h⟩
  · exact Or.inl ⟨e, h.kept f h1 h2 h3⟩
  · exact Or.inr ⟨e, e2, h.kept f h1⟩
theorem QX.same {w w' : World} {p b g cap W H d s n : Nat} {dn : Bool} {P : Nat → Nat → Bool} (h : QX w p b g cap W H d s n dn P) (f : Fr (fun _ => False) w w') : QX w' p b g cap W H d s n dn P := h.kept f (fun h => h) (fun h => h) (fun h => h)
theorem QX.blk {w : World} {p b g cap W H d s n : Nat} {dn : Bool} {P : Nat → Nat → Bool} (h : QX w p b g cap W H d s n dn P) : ∃ t, w.heap[p]? = some (.cells #[.int .i64 W, .int .i64 H, .int .i64 d, .int .i64 s, .int .i64 n, t] 61 (0, 0)) := by
  rcases h with ⟨_, h⟩ | ⟨_, e, h⟩
  · exact ⟨_, h.blk⟩
  · subst e; exact ⟨_, h⟩

/-- Both pages are added the same thing: the same error, the same pixels. -/
theorem add_both (p b g cap r gr N W H d s n : Nat) (dn : Bool) (P : Nat → Nat → Bool) (x y op a c : Int) (l : List Nat) (hx : I64 x) (hy : I64 y) (hop : I64 op) (ha : I64 a) (hc : I64 c) (hlt : ∀ j : Nat, l[j]?.getD 0 < 18446744073709551616) (w0 : World) (v0 : Value) (hv0 : Seen w0 v0 l) (hc0 : CapOK v0) :
    ∃ (C : Int) (P' : Nat → Nat → Bool),
      (∀ w v, QX w p b g cap W H d s n dn P → Seen w v l → CapOK v → Calls Try.prog 11 #[.pointer (some ⟨p, 0, none⟩), .int .i64 x, .int .i64 y, .int .i64 op, .agg #[.int .i64 a, .int .i64 c, v]] w fun e w' => e = .returned (.int .i64 C) ∧ QX w' p b g cap W H d s n dn P' ∧ Fr (fun k => k = g) w w') ∧
      (∀ w v, RpAt w r gr N W H d s n dn P → (∀ w', Fr (fun k => k = gr) w w' → Seen w' v l) → CapOK v → Calls Try.prog 13 #[.pointer (some ⟨r, 0, none⟩), .int .i64 x, .int .i64 y, .int .i64 op, .agg #[.int .i64 a, .int .i64 c, v]] w fun e w' => e = .returned (.int .i64 C) ∧ RpAt w' r gr N W H d s n dn P' ∧ Fr (fun k => k = gr) w w') := by
  by_cases ho : opOK op = false
  · refine ⟨150, P, fun w v h hv hcv => ?_, fun w v h hv hcv => ?_⟩
    · refine (add_op p x y op a c v w ho).mono ?_
      rintro e w' ⟨rfl, hf⟩
      exact ⟨rfl, h.same hf, hf.mono (fun _ _ h => h.elim)⟩
    · refine (radd_op r x y op a c v w ho).mono ?_
      rintro e w' ⟨rfl, hf⟩
      exact ⟨rfl, h.same hf, hf.mono (fun _ _ h => h.elim)⟩
  have ho : opOK op = true := by cases h : opOK op <;> simp_all
  by_cases hv : validB a c l = false
  · refine ⟨150, P, fun w v h hs hcv => ?_, fun w v h hs hcv => ?_⟩
    · refine (add_form p x y op a c v l w ho ha hc hs hlt hv).mono ?_
      rintro e w' ⟨rfl, hf⟩
      exact ⟨rfl, h.same hf, hf.mono (fun _ _ h => h.elim)⟩
    · refine (radd_form r x y op a c v l w ho ha hc (hs w (Fr.refl _ _)) hlt hv).mono ?_
      rintro e w' ⟨rfl, hf⟩
      exact ⟨rfl, h.same hf, hf.mono (fun _ _ h => h.elim)⟩
  have hv : validB a c l = true := by cases h : validB a c l <;> simp_all
  obtain ⟨Wb, Hb, B, rfl, rfl, hl, hb0⟩ := valid_bm hv hv0 hc0 hlt
  have hbm : ∀ w v, Seen w v l → CapOK v → Bm w v Wb Hb B := fun w v h1 h2 => ⟨by rw [← hl]; exact h1, h2, hb0.h1, hb0.h2, hb0.h3⟩
  by_cases hh : (dn || !holdOK n s y Hb) = true
  · refine ⟨151, P, fun w v h hs hcv => ?_, fun w v h hs hcv => ?_⟩
    · rcases h with ⟨e, h⟩ | ⟨e, e2, h⟩
      · subst e
        have hno : holdOK n s y Hb = false := by simpa using hh
        refine (add_hold x y op Wb Hb v B w h ho (hbm w v hs hcv) hno).mono ?_
        rintro e w' ⟨rfl, hf⟩
        exact ⟨rfl, Or.inl ⟨rfl, h.same hf⟩, hf.mono (fun _ _ h => h.elim)⟩
      · subst e
        refine (add_ended x y op Wb Hb v B w h ho (hbm w v hs hcv)).mono ?_
        rintro e w' ⟨rfl, hf⟩
        exact ⟨rfl, Or.inr ⟨rfl, e2, h.same hf⟩, hf.mono (fun _ _ h => h.elim)⟩
    · refine (radd_hold x y op Wb Hb v B h ho (hbm w v (hs w (Fr.refl _ _)) hcv) hh).mono ?_
      rintro e w' ⟨rfl, hf⟩
      exact ⟨rfl, h.same hf, hf.mono (fun _ _ h => h.elim)⟩
  · have hdn : dn = false := by cases dn <;> simp_all
    have hok : holdOK n s y Hb = true := by cases h : holdOK n s y Hb <;> simp_all
    subst hdn
    obtain ⟨o, rfl, hol⟩ : ∃ o : Nat, op = o ∧ o ≤ 4 := by
      unfold opOK at ho
      have := of_decide_eq_true ho
      exact ⟨op.toNat, by omega, by omega⟩
    refine ⟨0, addPix o P B Wb Hb x y, fun w v h hs hcv => ?_, fun w v h hs hcv => ?_⟩
    · rcases h with ⟨_, h⟩ | ⟨e, _⟩
      · refine (add_ok x y o Wb Hb v B w h hol (hbm w v hs hcv) hx hy hok).mono ?_
        rintro e w' ⟨rfl, hp, hf⟩
        exact ⟨rfl, Or.inl ⟨rfl, hp⟩, hf⟩
      · cases e
    · refine (radd_ok x y o Wb Hb v B h hol (fun w' f => hbm w' v (hs w' f) hcv) hx hy hok).mono ?_
      rintro e w' ⟨rfl, hp, hf⟩
      exact ⟨rfl, hp, hf⟩

/-- Both pages' stripes are ended: the same error, the same next row. -/
theorem stripe_both (p b g cap r gr N W H d s n : Nat) (dn : Bool) (P : Nat → Nat → Bool) (last : Int) :
    ∃ (C : Int) (n' : Nat),
      (∀ w, QX w p b g cap W H d s n dn P → n ≤ 1048576 → s ≤ 1048576 → H ≤ 1048576 → Calls Try.prog 14 #[.pointer (some ⟨p, 0, none⟩), .int .i64 last] w fun e w' => e = .returned (.int .i64 C) ∧ QX w' p b g cap W H d s n' dn P ∧ Fr (fun k => k = p) w w') ∧
      (∀ w, RpAt w r gr N W H d s n dn P → Calls Try.prog 15 #[.pointer (some ⟨r, 0, none⟩), .int .i64 last] w fun e w' => e = .returned (.int .i64 C) ∧ RpAt w' r gr N W H d s n' dn P ∧ Fr (fun k => k = r) w w') ∧ (stripeOK n s H last = true → dn = false → C = 0 ∧ n' = min (n + s) H) := by
  by_cases hh : rstripeOK n s H dn last = false
  · refine ⟨151, n, fun w h h1 h2 h3 => ?_, fun w h => ?_, fun k1 k2 => ?_⟩
    · obtain ⟨t, hb⟩ := h.blk
      have hno : stripeOK n s H last = false := by
        rcases h with ⟨e, _⟩ | ⟨_, e, _⟩
        · subst e; simpa [rstripeOK] using hh
        · subst e; exact stripe_done s n last
      refine (stripe_no hb last h1 h2 h3 hno).mono ?_
      rintro e w' ⟨rfl, k, rfl⟩
      exact ⟨rfl, h.same ((Fr.refl _ _).drewN k), (Fr.refl _ _).drewN k⟩
    · refine (rstripe_no h last hh).mono ?_
      rintro e w' ⟨rfl, hf⟩
      exact ⟨rfl, h.same hf, hf.mono (fun _ _ h => h.elim)⟩
    · subst k2; simp [rstripeOK, k1] at hh
  · have hdn : dn = false := by cases dn <;> simp_all [rstripeOK]
    have hok : stripeOK n s H last = true := by cases h : stripeOK n s H last <;> simp_all [rstripeOK]
    subst hdn
    refine ⟨0, min (n + s) H, fun w h h1 h2 h3 => ?_, fun w h => ?_, fun _ _ => ⟨rfl, rfl⟩⟩
    · rcases h with ⟨_, h⟩ | ⟨e, _⟩
      · refine (stripe_ok h last hok).mono ?_
        rintro e w' ⟨rfl, hp, hf⟩
        exact ⟨rfl, Or.inl ⟨rfl, hp⟩, hf⟩
      · cases e
    · exact rstripe_ok h last hok

/-- Both pages are ended: the same error, the same bitmap, told in new memory. -/
theorem end_both (p b g cap r gr N W H d s n : Nat) (dn : Bool) (P : Nat → Nat → Bool) (hN : N ≤ 1000) (hNE : N = H * stride W) (hn : n ≤ H) :
    ∃ (C : Int) (a c : Int) (l : List Nat) (n' : Nat) (dn' : Bool), l.length ≤ 1000 ∧ n' ≤ H ∧
      (∀ w, QX w p b g cap W H d s n dn P → Calls Try.prog 16 #[.pointer (some ⟨p, 0, none⟩)] w fun e w' => ∃ v, e = .returned (.tuple #[.agg #[.int .i64 a, .int .i64 c, v], .int .i64 C]) ∧ w'.ownsRow w.heap.size 65 1 v l.length (wordCells l) ∧ QX w' p b g cap W H d s n' dn' P ∧ Fr (fun k => k = p) w w') ∧
      (∀ w, RpAt w r gr N W H d s n dn P → Calls Try.prog 17 #[.pointer (some ⟨r, 0, none⟩)] w fun e w' => ∃ v, e = .returned (.tuple #[.agg #[.int .i64 a, .int .i64 c, v], .int .i64 C]) ∧ w'.ownsRow w.heap.size 65 1 v l.length (wordCells l) ∧ RpAt w' r gr N W H d s n' dn' P ∧ Fr (fun k => k = r) w w') := by
  by_cases hh : rendNo n s H dn = true
  · refine ⟨151, 0, 0, [], n, dn, Nat.zero_le _, hn, fun w h => ?_, fun w h => ?_⟩
    · rcases h with ⟨e, h⟩ | ⟨e, e2, h⟩
      · subst e
        have hs : s ≠ 0 ∧ n < H := by
          simp [rendNo] at hh; omega
        refine (end_no w h hs.1 hs.2).mono ?_
        rintro e w' ⟨rfl, hf⟩
        exact ⟨_, rfl, ⟨rfl, Or.inl ⟨rfl, rfl⟩⟩, Or.inl ⟨rfl, h.same hf⟩, hf.mono (fun _ _ h => h.elim)⟩
      · subst e
        refine (end_ended w h).mono ?_
        rintro e w' ⟨rfl, hf⟩
        exact ⟨_, rfl, ⟨rfl, Or.inl ⟨rfl, rfl⟩⟩, Or.inr ⟨rfl, e2, h.same hf⟩, hf.mono (fun _ _ h => h.elim)⟩
    · refine (rend_no h hh).mono ?_
      rintro e w' ⟨rfl, hf⟩
      exact ⟨_, rfl, ⟨rfl, Or.inl ⟨rfl, rfl⟩⟩, h.same hf, hf.mono (fun _ _ h => h.elim)⟩
  · have hdn : dn = false := by cases dn <;> simp_all [rendNo]
    subst hdn
    have hno : rendNo n s H false = false := by cases h : rendNo n s H false <;> simp_all
    have hs : s = 0 ∨ n = H := by
      simp [rendNo] at hno; omega
    refine ⟨0, W, H, render W H P, H, true, by rw [length_render]; omega, Nat.le_refl _, fun w h => ?_, fun w h => ?_⟩
    · rcases h with ⟨_, h⟩ | ⟨e, _⟩
      · refine (end_ok w h hs).mono ?_
        rintro e w' ⟨g2, cap2, rfl, hr, he, hf, hg⟩
        refine ⟨_, rfl, ?_, Or.inr ⟨rfl, rfl, he⟩, hf⟩
        rw [length_render]
        exact ownsRow_base hr (fun k e => by simp [Value.ownBlock] at e; omega)
      · cases e
    · refine (rend_ok h hno hN).mono ?_
      rintro e w' ⟨g2, cap2, rfl, hr, he, hf, hg⟩
      refine ⟨_, rfl, ?_, he, hf⟩
      rw [length_render, hNE]
      exact ownsRow_base hr (fun k e => by simp [Value.ownBlock] at e; omega)
end Go.Proofs.Ytejempbgpkeheaa
