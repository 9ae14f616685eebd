/- Package generic: contexts. -/
import Derived.Test.YtkggdnkmaldmlabKLi
import Derived.Test.YtkggdnkmaldmlabKRo
namespace Go.Proofs.Ytkggdnkmaldmlab
open Go.RowKit

/-- Rows of a bitmap as a bitmap of their own. -/
theorem RowAt.part {w : World} {g cap W H : Nat} {P : Pxs} (h : RowAt w g cap W H P) (h1 : 1 ≤ W) (h3 : W * H ≤ 1048576) (f y : Nat) (hf : f ≤ y) (hy : y < H) : Bm w (.slice (some ⟨g, f * stride W, none⟩) ((y + 1 - f) * stride W) (cap - f * stride W)) W (y + 1 - f) (fun a e => P a (e + f)) := by
  obtain ⟨cur, hc, hcap, hm, hs, ht⟩ := h.cur
  have hS : 0 < stride W := stride_pos (by omega)
  have hyS : (y + 1) * stride W ≤ H * stride W := Nat.mul_le_mul_right _ (by omega)
  have hfS : f * stride W + (y + 1 - f) * stride W = (y + 1) * stride W := by rw [← Nat.add_mul, show f + (y + 1 - f) = y + 1 by omega]
  obtain ⟨_, _, f3⟩ := size_facts h1 (show 1 ≤ H by omega) h3
  refine ⟨⟨_, _, by rw [length_render], by rw [length_render]; omega, fun _ => ⟨g, f * stride W, rfl, fun j hj => ?_⟩⟩, ?_, h1, by omega, ?_⟩
  · rw [length_render] at hj
    rw [World.ownsRow.cellAt h _ (by omega), wordCells_get, render_get' _ hj, render_get' _ (by omega)]
    have e1 : (f * stride W + j) / stride W = f + j / stride W := by rw [Nat.add_comm, Nat.mul_comm, Nat.add_mul_div_left _ _ hS, Nat.add_comm]
    have e2 : (f * stride W + j) % stride W = j % stride W := by rw [Nat.add_comm, Nat.mul_comm, Nat.add_mul_mod_self_left]
    rw [e1, e2]
    show some (Value.int .u64 ((wd W P (f + j / stride W) (j % stride W) : Nat) : Int)) = some (Value.int .u64 ((wd W (fun a e => P a (e + f)) (j / stride W) (j % stride W) : Nat) : Int))
    rw [wd_shift (Q := fun a e => P a (e + f)) (z := j / stride W) (fun x _ => by rw [Nat.add_comm])]
  · intro ao n c e
    simp only [Value.slice.injEq] at e
    obtain ⟨_, rfl, rfl⟩ := e
    omega
  · exact Nat.le_trans (Nat.mul_le_mul_left W (show y + 1 - f ≤ H by omega)) h3

set_option maxRecDepth 100000 in
set_option maxHeartbeats 2000000 in
theorem contexts_any (base t W H y g cap : Nat) (skip : Bool) (P : Pxs) (w : World) (hr : RowAt w g cap W H P) (ht : t < 4) (hy : y < H) (h1 : 1 ≤ W) (h3 : W * H ≤ 1048576) :
    Calls Try.prog 45 #[procV base t skip, .agg #[.int .i64 W, .int .i64 H, .slice (some ⟨g, 0, none⟩) (H * stride W) cap], .int .i64 y] w fun e w' => ∃ gi, e = .returned (.slice (some ⟨gi, 0, none⟩) W W) ∧ IntRow w' gi W (fun x => cxJ W P t x y) ∧ w.heap.size ≤ gi ∧ Fr (fun _ => False) w w' := by
  obtain ⟨f1, f2, f3⟩ := size_facts h1 (show 1 ≤ H by omega) h3
  have hS : 0 < stride W := stride_pos (by omega)
  have hS2 : stride W ≤ 1048576 := by unfold stride; omega
  obtain ⟨f, hf⟩ : ∃ f, f = y - 2 := ⟨_, rfl⟩
  have HR : Hid (∀ w', Fr (fun _ => False) w w' → Bm w' (.slice (some ⟨g, f * stride W, none⟩) ((y + 1 - f) * stride W) (cap - f * stride W)) W (y + 1 - f) (fun a e => P a (e + f))) := fun w' fr => (hr.kept fr (fun h => h)).part h1 h3 f y (by omega) hy
  obtain ⟨cur, hc, hcap, hm, hs, hct⟩ := hr.cur
  have hyS : (y + 1) * stride W ≤ H * stride W := Nat.mul_le_mul_right _ (by omega)
  have hfS : f * stride W + (y + 1 - f) * stride W = (y + 1) * stride W := by rw [← Nat.add_mul, show f + (y + 1 - f) = y + 1 by omega]
  have hdiv : Int.tdiv ((H * stride W : Nat) : Int) (H : Int) = (stride W : Int) := by
    rw [Int.tdiv_eq_ediv_of_nonneg (by omega), Int.natCast_mul, Int.mul_ediv_cancel_left _ (by omega)]
  have hH0 : ((H : Int) == 0) = false := by rw [beq_eq_false_iff_ne]; omega
  unfold procV
  clear hr hc hs hct
  obtain ⟨A, hA⟩ : ∃ A, A = f * stride W := ⟨_, rfl⟩
  obtain ⟨E, hE⟩ : ∃ E, E = (y + 1) * stride W := ⟨_, rfl⟩
  have hA1 : (f : Int) * (stride W : Int) = (A : Int) := by rw [hA]; push_cast; rfl
  have hE1 : ((y : Int) + 1) * (stride W : Int) = (E : Int) := by rw [hE]; push_cast; rfl
  have hL : (y + 1 - f) * stride W = E - A := by omega
  rw [hL, ← hA] at HR
  rw [← hE] at hyS
  have hAE : A < E := by
    have : 1 * stride W ≤ (y + 1 - f) * stride W := Nat.mul_le_mul_right _ (by omega)
    omega
  clear hfS hL hA hE
  generalize stride W = S at *
  generalize hN : H * S = N at *
  clear hN
  generalize sizeT t = Z at *
  have hy20 : y ≤ 1048576 := by omega
  have hHp : 1 ≤ H := by omega
  have HRow : Hid (∀ (w' : World), Fr (fun _ => False) w w' → ∀ (h yy : Int), h = ((y + 1 - f : Nat) : Int) → yy = ((y - f : Nat) : Int) → Calls Try.prog 53 #[.agg #[.int .i64 W, .int .i64 h, .slice (some ⟨g, A, none⟩) (E - A) (cap - A)], .int .i64 t, .int .i64 yy] w' fun e w'' => ∃ gi, e = .returned (.tuple #[.slice (some ⟨gi, 0, none⟩) W W, .int .i64 0]) ∧ IntRow w'' gi W (fun x => cxJ W P t x y) ∧ w'.heap.size ≤ gi ∧ Fr (fun _ => False) w' w'') := fun w' fr h yy eh ey => by
    subst eh; subst ey
    refine (row_ok W (y + 1 - f) _ (fun a e => P a (e + f)) t (y - f) w' (HR.out w' fr) ht (by omega)).mono ?_
    rintro e w'' ⟨gi, rfl, hi, hg, hf'⟩
    exact ⟨gi, rfl, hi.congr (fun x _ => cxJ_part W P t x y f ht hf), hg, hf'⟩
  clear hm cur h3 hy ht HR
  rcases (show f = 0 ∨ (3 ≤ y ∧ y = f + 2) by omega) with h0 | h0
  · subst h0
    simp only [Int.natCast_zero, Int.zero_mul] at hA1
    obtain rfl : A = 0 := by omega
    have hy2 : y ≤ 2 := by omega
    simp only [Nat.sub_zero] at HRow
    clear hf hAE hA1
    go_enter Try.func45, Try.ntmps45
    go_wp2_with fail
    go_region
    go_wp2_with fail
    refine (HRow.out _ (by repeat (first | with_reducible exact Fr.refl _ _ | with_reducible refine Fr.drew ?_ | with_reducible refine Fr.alloc ?_ _)) _ _ (by omega) rfl).mono ?_
    rintro e w2 ⟨gi, rfl, hi, hg, hf2⟩
    have HI : Hid (IntRow w2 gi W (fun x => cxJ W P t x y)) := hi
    have HG : Hid (w.heap.size ≤ gi) := by simp at hg; show _ ≤ _; omega
    have HF : Hid (Fr (fun _ => False) w w2) := by
      refine Fr.trans (T := fun _ => False) ?_ hf2 (fun _ _ h => h)
      repeat (first | with_reducible exact Fr.refl _ _ | with_reducible refine Fr.drew ?_ | with_reducible refine Fr.alloc ?_ _)
    clear hi hg hf2
    go_wp2_with fail
    go_ret
    exact ⟨gi, rfl, HI.out, HG.out, HF.out⟩
  · obtain ⟨hy2, h0⟩ := h0
    have HY3 : Hid ((y : Int) - 2 = (f : Int) ∧ ((y : Int) + 1) - ((y : Int) - 2) = ((y + 1 - f : Nat) : Int) ∧ (y : Int) - ((y : Int) - 2) = ((y - f : Nat) : Int)) := by refine ⟨?_, ?_, ?_⟩ <;> omega
    have hA2 : ((y : Int) - 2) * (S : Int) = (A : Int) := by rw [HY3.out.1]; exact hA1
    have hne : ¬ cap = A := by omega
    clear hf h0 hA1
    generalize hq1 : y + 1 - f = q1 at *
    generalize hq2 : y - f = q2 at *
    clear hq1 hq2
    go_enter Try.func45, Try.ntmps45
    go_wp2_with fail
    go_region
    go_wp2_with fail
    refine (HRow.out _ (by repeat (first | with_reducible exact Fr.refl _ _ | with_reducible refine Fr.drew ?_ | with_reducible refine Fr.alloc ?_ _)) _ _ HY3.out.2.1 HY3.out.2.2).mono ?_
    rintro e w2 ⟨gi, rfl, hi, hg, hf2⟩
    have HI : Hid (IntRow w2 gi W (fun x => cxJ W P t x y)) := hi
    have HG : Hid (w.heap.size ≤ gi) := by simp at hg; show _ ≤ _; omega
    have HF : Hid (Fr (fun _ => False) w w2) := by
      refine Fr.trans (T := fun _ => False) ?_ hf2 (fun _ _ h => h)
      repeat (first | with_reducible exact Fr.refl _ _ | with_reducible refine Fr.drew ?_ | with_reducible refine Fr.alloc ?_ _)
    clear hi hg hf2
    go_wp2_with fail
    go_ret
    exact ⟨gi, rfl, HI.out, HG.out, HF.out⟩

end Go.Proofs.Ytkggdnkmaldmlab
