/- A bitmap that may be, out of its reading; a row's capacity. -/
import Derived.Test.YtgpciopoionmeaaBm
import Derived.Test.YtgpciopoionmeaaRefPut
namespace Go.Proofs.Ytgpciopoionmeaa
open Go.RowKit

theorem valid_bm {x y : Int} {v : Value} {l : List Nat} {w : World} (h : validB x y l = true) (hv : Seen w v l) (hc : CapOK v) (hlt : ∀ j : Nat, l[j]?.getD 0 < 18446744073709551616) : ∃ (W H : Nat) (P : Nat → Nat → Bool), x = W ∧ y = H ∧ l = render W H P ∧ Bm w v W H P := by
  unfold validB at h
  simp only [Bool.and_eq_true, decide_eq_true_eq] at h
  obtain ⟨⟨hs, hl⟩, hr⟩ := h
  unfold sizeOK at hs
  obtain ⟨s1, s2, s3⟩ := of_decide_eq_true hs
  obtain ⟨W, rfl⟩ : ∃ W : Nat, x = W := ⟨x.toNat, by omega⟩
  obtain ⟨H, rfl⟩ : ∃ H : Nat, y = H := ⟨y.toNat, by omega⟩
  have e := valid_render W H l (by omega) hl hr hlt
  refine ⟨W, H, pixOf W l, rfl, rfl, e, ?_, hc, by omega, by omega, ?_⟩
  · rw [← e]; exact hv
  · rw [← Int.natCast_mul] at s3; omega
theorem of_slice {w : World} {base e s n g c : Nat} {xs : List Value} (h : w.ownsRow base e s (.slice (some ⟨g, 0, none⟩) n c) n xs) : n ≤ c ∧ c ≤ maxLen := by
  rcases h.2 with ⟨e1, _⟩ | ⟨g1, c1, cur, e2, _, _, hc, hm, _⟩
  · cases e1
  · simp only [Value.slice.injEq] at e2
    obtain ⟨_, _, rfl⟩ := e2
    exact ⟨hc, hm⟩
theorem of_len {w : World} {base e s n : Nat} {v : Value} {xs : List Value} (h : w.ownsRow base e s v n xs) : n ≤ 9223372036854775807 := by
  rcases h.2 with ⟨_, e⟩ | ⟨g1, c1, cur, e2, _, _, hc, hm, _⟩
  · omega
  · unfold maxLen at hm; omega

end Go.Proofs.Ytgpciopoionmeaa
