/- 'EqBitmap', whatever it is given. -/
import Derived.Test.YtcopbjinnegfoabDoorMay
namespace Go.Proofs.YtcopbjinnegfoabDoor
open Go.RowKit

theorem eqw_any (v u : Value) (la lb : List Nat) (w : World) (ha : Seen w v la) (hb : Seen w u lb) :
    Calls Tryd.prog 35 #[v, u] w fun e w' => e = .returned (.bool (decide (la = lb))) ∧ Fr (fun _ => False) w w' := by
  by_cases hl : la.length = lb.length
  · refine (eqw_same v u la lb w ha hb hl _ rfl).mono ?_
    rintro e w' ⟨he, q, rfl⟩
    exact ⟨he, (Fr.refl _ _).drewN q⟩
  · refine (eqw_len v u la lb w ha hb hl).mono ?_
    rintro e w' ⟨he, rfl⟩
    refine ⟨?_, Fr.refl _ _⟩
    rw [decide_eq_false (fun h => hl (by rw [h]))]; exact he

def eqB (x y x2 y2 : Int) (la lb : List Nat) : Bool := (x == x2) && ((y == y2) && decide (la = lb))

set_option maxRecDepth 100000 in
set_option maxHeartbeats 2000000 in
theorem eqBitmap_any (x y x2 y2 : Int) (v u : Value) (la lb : List Nat) (w : World) (ha : Seen w v la) (hb : Seen w u lb) :
    Calls Tryd.prog 12 #[.agg #[.int .i64 x, .int .i64 y, v], .agg #[.int .i64 x2, .int .i64 y2, u]] w fun e w' => e = .returned (.bool (eqB x y x2 y2 la lb)) ∧ Fr (fun _ => False) w w' := by
  have HQ : Hid (∀ w', Fr (fun _ => False) w w' → Calls Tryd.prog 35 #[v, u] w' fun e w'' => e = .returned (.bool (decide (la = lb))) ∧ Fr (fun _ => False) w' w'') := fun w' hf => eqw_any v u la lb w' (ha.kept hf) (hb.kept hf)
  obtain ⟨ao, ca, rfl, hla, _⟩ := ha
  obtain ⟨bo, cb, rfl, hlb, _⟩ := hb
  unfold eqB
  generalize decide (la = lb) = d at *
  generalize la.length = n at *
  generalize lb.length = m at *
  rcases hxb : (x == x2) with _ | _
  · go_enter Tryd.func12, Tryd.ntmps12
    go_wp2_with fail
    go_ret
    exact ⟨rfl, ((Fr.refl _ _).alloc _).alloc _⟩
  · rcases hyb : (y == y2) with _ | _
    · go_enter Tryd.func12, Tryd.ntmps12
      go_wp2_with fail
      go_ret
      exact ⟨rfl, ((Fr.refl _ _).alloc _).alloc _⟩
    · go_enter Tryd.func12, Tryd.ntmps12
      go_wp2_with fail
      refine (HQ.out _ (((Fr.refl _ _).alloc _).alloc _)).mono ?_
      rintro e w1 ⟨rfl, hf1⟩
      have HF : Hid (Fr (fun _ => False) w w1) := (((Fr.refl _ _).alloc _).alloc _).trans hf1 (fun _ _ hh => hh)
      clear hf1
      go_wp2_with fail
      go_ret
      exact ⟨by cases d <;> rfl, HF.out⟩

def qB (x y x2 y2 : Int) (la lb : List Nat) : Bool := validB x y la && (validB x2 y2 lb && eqB x y x2 y2 la lb)

end Go.Proofs.YtcopbjinnegfoabDoor
