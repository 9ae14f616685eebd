/- 'OverWords' of whatever was told. -/
import Derived.Test.YtejempbgpkeheaaXo
import Derived.Test.YtejempbgpkeheaaXb
namespace Go.Proofs.Ytejempbgpkeheaa
open Go.RowKit

set_option maxRecDepth 100000 in
set_option maxHeartbeats 2000000 in
theorem overW_nil (w : World) : Calls Try.prog 19 #[.slice none 0 0] w fun e w' => e = .returned (.tuple #[]) ∧ Fr (fun _ => False) w w' := by
  obtain ⟨i0, hi, hz0, hz1, hz2⟩ := info_parts Try.infoUw
  have hown : w.ownsRow 0 65 1 (.slice none 0 0) 0 [] := ⟨rfl, Or.inl ⟨rfl, rfl⟩⟩
  have HO : Hid (w.ownsRow 0 65 1 (.slice none 0 0) 0 []) := hown
  clear hown
  go_enter Try.func19, Try.ntmps19
  go_wp2_with fail
  go_loopw [2] (fun i wr => i = .int .i64 0 ∧ wr = w) (fun _ _ => 0)
  case atStart => exact ⟨rfl, rfl⟩
  case round =>
    obtain ⟨rfl, hw⟩ := hrel
    subst hw
    have hown := HO.out
    go_wp2_with (first | (at_builtin; refine wpList_append_row _ rfl _ _ 36 rfl 65 i0 (.int .u64 0) 1 8 Try.underlying36 hi hz0 hz1 hz2 rfl (by decide) _ _ _ rfl (hown.alloc _) ⟨_, 0, none⟩ 2 2 [.int .u64 1, .int .u64 2] rfl rfl ?c1 ?c2 ?c3 ?c4 (by decide) ?_))
    case c1 => exact fun j u hu => cell_two_new _ _ _ _ j u hu
    case c2 => intro u hu; simp at hu; rcases hu with rfl | rfl <;> rfl
    case c3 => unfold maxLen; omega
    case c4 => omega
    intro g' cap' w2 hown2 hgrow hrow hc' hm'
    have hcx : ∃ x, w2.cell? ⟨g', 0, none⟩ = some x := by
      rw [hown2.cellAt 0 (by omega)]
      have hl := hown2.1
      exact ⟨_, List.getElem?_eq_getElem (by omega)⟩
    obtain ⟨x, hcx⟩ := hcx
    have hfx := hown2.frozenAt 0
    have HFZ := (show Hid _ from ((Fr.refl (fun _ => False) _).alloc _).grown hgrow (fun k hk _ => by simp [Value.ownBlock] at hk))
    rcases hrow with e | e
    · simp [Value.ownBlock] at e
    have HGR : Hid (g' ≠ 0 ∨ g' = 0) := by show _ ∨ _; omega
    have HGE := (show Hid _ from e)
    clear hgrow hown2 hown e
    unfold maxLen at hm'
    go_wp2_with fail
    go_end0
    refine ⟨rfl, HFZ.out.setCell (p := ⟨g', 0, none⟩) (fun hp => ?_) _⟩
    have e := HGE.out
    exact absurd hp (by simp; omega)

theorem overW_any (M n c : Nat) (a : Option Addr) (xs : List Value) (w : World) (hn : n ≤ 1048576) (h : w.ownsRow M 65 1 (.slice a n c) n xs) :
    Calls Try.prog 19 #[.slice a n c] w fun e w' => e = .returned (.tuple #[]) ∧ Fr (fun k => M ≤ k) w w' := by
  rcases h.2 with ⟨e, rfl⟩ | ⟨g, cap, cur, e, hg, _⟩
  · simp only [Value.slice.injEq] at e
    obtain ⟨rfl, -, rfl⟩ := e
    refine (overW_nil w).mono ?_
    rintro e w' ⟨rfl, hf⟩
    exact ⟨rfl, hf.mono (fun _ _ h => h.elim)⟩
  · simp only [Value.slice.injEq] at e
    obtain ⟨rfl, -, rfl⟩ := e
    refine (overW_own g c n xs w hn (ownsRow_base h (fun _ _ => Nat.zero_le _))).mono ?_
    rintro e w' ⟨rfl, hf⟩
    exact ⟨rfl, hf.mono (fun k _ e => by omega)⟩
theorem EX.news {w0 w w' : World} {M sc p b g cap r gr N W H d s n n2 : Nat} {so du : Value} {dn dn2 : Bool} {P P2 : Nat → Nat → Bool} (h : EX w0 w M sc p b g cap r gr N W H d s so du n dn P n2 dn2 P2) (f : Fr (fun k => M ≤ k) w w') : EX w0 w' M sc p b g cap r gr N W H d s so du n dn P n2 dn2 P2 := by
  have l := h.lt
  have o := h.lo
  exact ⟨blk_kept h.scb f (by omega), h.qx.kept f (by omega) (by omega) (by omega), h.rx.kept f (by omega) (by omega), h.fx.trans f (fun i hi e => by omega), Nat.le_trans h.mw f.size, h.lo, h.lt, h.s1, h.s2, h.s3⟩
end Go.Proofs.Ytejempbgpkeheaa
