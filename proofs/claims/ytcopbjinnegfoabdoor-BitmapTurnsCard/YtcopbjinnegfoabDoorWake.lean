/- 'wakes' returns true and leaves what was there. -/
import Derived.Test.YtcopbjinnegfoabDoorEq
import Derived.Test.YtcopbjinnegfoabDoorBlit
import Derived.Test.YtcopbjinnegfoabDoorMoveUp
import Derived.Test.YtcopbjinnegfoabDoorLay53
namespace Go.Proofs.YtcopbjinnegfoabDoor
open Go.RowKit

theorem lay53OK : LayOK 29 (fun _ s => s) := fun b g cap W H P y fr to n gl L l w h1 h2 h3 h4 h5 h6 h7 h8 h9 => lay_53 _ _ isReplace b g cap W H P y fr to n gl L l w h1 h2 h3 h4 h5 h6 h7 h8 h9

/-- What 'wakes' asks of a blit. -/
def wakeQ (P : Nat → Nat → Bool) : Nat → Nat → Bool := laidAll P 0 1 3 (fun a => P (a - 1) 0)

theorem wake_move (b g cap : Nat) (P : Nat → Nat → Bool) (w : World) (h : MapAt w b g cap 4 1 P) :
    Calls Tryd.prog 41 #[.pointer (some ⟨b, 0, none⟩), .pointer (some ⟨b, 0, none⟩), .agg #[.int .i64 (0 : Nat), .int .i64 (1 : Nat), .int .i64 (3 : Nat)], .agg #[.int .i64 (0 : Nat), .int .i64 (0 : Nat), .int .i64 (1 : Nat)], .agg #[.int .i64 (4 : Nat), .func (.func 29) #[] #[]]] w fun e w' => e = .returned (.tuple #[]) ∧ MapAt w' b g cap 4 1 (wakeQ P) ∧ Fr (fun k => k = g) w w' := by
  refine (move_up 29 4 (fun _ s => s) lay53OK b g cap 4 1 (fun k => if k = 0 then P else wakeQ P) P 0 1 3 0 0 1 w ?_ (by omega) (by omega) (by omega) (by omega) (by omega) ?_ ?_).mono ?_
  · exact h
  · intro k x hk hx
    obtain rfl : k = 0 := by omega
    rfl
  · intro k hk
    obtain rfl : k = 0 := by omega
    rfl
  · rintro e w' ⟨he, hm, hf⟩
    exact ⟨he, hm, hf⟩

theorem wake_blit (b g cap : Nat) (P : Nat → Nat → Bool) (w : World) (h : MapAt w b g cap 4 1 P) :
    Calls Tryd.prog 21 #[.pointer (some ⟨b, 0, none⟩), .pointer (some ⟨b, 0, none⟩), .int .i64 0, .int .i64 0, .int .i64 3, .int .i64 1, .int .i64 1, .int .i64 0, .int .i64 4] w fun e w' => e = .returned (.int .i64 0) ∧ MapAt w' b g cap 4 1 (wakeQ P) ∧ Fr (fun k => k = g) w w' := by
  refine blit_core b g cap 4 1 b g cap 4 1 4 P P 0 0 3 1 1 0 (fun w' => MapAt w' b g cap 4 1 (wakeQ P)) w h h (by omega) (fun e => h.ne e.symm) (by omega) (by omega) (by omega) (by omega) (by omega) (by omega) ?_
  intro w' p1 q1 n1 p2 q2 n2 hf c1 c2
  have i0 := c1.iff 0 (by omega) (by omega)
  have i1 := c1.iff 1 (by omega) (by omega)
  have i2 := c1.iff 2 (by omega) (by omega)
  have a1 := c1.ha
  have a2 := c1.hb
  have a3 := c1.off
  have j0 := c2.iff 0 (by omega) (by omega)
  have d1 := c2.ha
  have d2 := c2.hb
  have d3 := c2.off
  obtain ⟨rfl, rfl, rfl⟩ : p1 = 0 ∧ q1 = 1 ∧ n1 = 3 := by omega
  obtain ⟨rfl, rfl, rfl⟩ : p2 = 0 ∧ q2 = 0 ∧ n2 = 1 := by omega
  exact wake_move b g cap P w' (h.kept hf (fun hh => hh) (fun hh => hh))

end Go.Proofs.YtcopbjinnegfoabDoor
