/- 'Crop' by pixels; pixels at any place. -/
import Derived.Test.YtgpciopoionmeaaRefGet
import Derived.Test.YtgpciopoionmeaaRefGet
import Derived.Test.YtgpciopoionmeaaCnt
namespace Go.Proofs.Ytgpciopoionmeaa
open Go.RowKit

theorem zget_any (W H : Nat) (v : Value) (P : Nat → Nat → Bool) (x y : Int) (w : World) (hv : Seen w v (render W H P)) (h1 : 1 ≤ W) (h2 : 1 ≤ H) (h3 : W * H ≤ 1048576) :
    Calls Try.prog 24 #[.agg #[.int .i64 W, .int .i64 H, v], .int .i64 x, .int .i64 y] w fun e w' => e = .returned (.int .i64 ((getPix W H P x y).toNat : Nat)) ∧ Fr (fun _ => False) w w' := by
  by_cases h : 0 ≤ x ∧ x < W ∧ 0 ≤ y ∧ y < H
  · obtain ⟨a, rfl⟩ : ∃ a : Nat, x = a := ⟨x.toNat, by omega⟩
    obtain ⟨b, rfl⟩ : ∃ b : Nat, y = b := ⟨y.toNat, by omega⟩
    rw [getPix_in (by omega) (by omega)]
    exact zget_in W H v P a b w hv h1 h2 h3 (by omega) (by omega)
  · rw [getPix_out h]
    exact zget_out W H v x y w (by obtain ⟨ao, c, e, _⟩ := hv; exact ⟨ao, _, c, e⟩) h

end Go.Proofs.Ytgpciopoionmeaa
