/- 'LendBitmap' and 'BackBitmap'. -/
import Derived.Test.YtodgdbbhllejkaaCp
import Derived.BigRegion
namespace Go.Proofs.Ytodgdbbhllejkaa
open Go.RowKit

def marks (l : List Nat) (k : Nat) : List Nat := l ++ List.replicate k 42405
theorem marks_zero (l : List Nat) : marks l 0 = l := by simp [marks]
theorem marks_succ (l : List Nat) (k : Nat) : marks l (k + 1) = marks l k ++ [42405] := by unfold marks; rw [List.replicate_succ', List.append_assoc]
theorem length_marks (l : List Nat) (k : Nat) : (marks l k).length = l.length + k := by simp [marks]
theorem marks_get (l : List Nat) (k : Nat) (h : k < 7) : (marks l 7)[l.length + k]? = some 42405 := by
  unfold marks
  rw [List.getElem?_append_right (by omega), show l.length + k - l.length = k from by omega, List.getElem?_replicate, if_pos h]
theorem marks_front (l : List Nat) : (marks l 7).take l.length = l := by
  unfold marks
  rw [List.take_left]
theorem row_shrink {w : World} {b e g n k cap : Nat} {xs : List Value} (h : w.ownsRow b e 1 (.slice (some ⟨g, 0, none⟩) n cap) n xs) (hk : k ≤ n) : w.ownsRow b e 1 (.slice (some ⟨g, 0, none⟩) k cap) k (xs.take k) := by
  obtain ⟨h1, h2⟩ := h
  refine ⟨by rw [List.length_take]; omega, ?_⟩
  rcases h2 with ⟨e, _⟩ | ⟨g', cap', cur, hv, hb, hg, hc, hm, hs, ht⟩
  · cases e
  · simp only [Value.slice.injEq, Option.some.injEq, Addr.mk.injEq, true_and, and_true] at hv
    obtain ⟨rfl, rfl⟩ := hv
    refine Or.inr ⟨g, cap, cur, rfl, hb, hg, by omega, hm, hs, ?_⟩
    rw [← ht, List.take_take]
    congr 1; omega

/-- Nil is nothing. -/
def NilOK (v : Value) : Prop := ∀ n c, v = .slice none n c → n = 0 ∧ c = 0

/-- Words that are lent, with marks behind them. -/
def Lent (w : World) (g : Nat) (l : List Nat) : Prop := w.ownsRow 0 23 1 (.slice (some ⟨g, 0, none⟩) (l.length + 7) (l.length + 7)) (l.length + 7) (wordCells (marks l 7))
theorem Lent.kept {S : Nat → Prop} {w w' : World} {g : Nat} {l : List Nat} (h : Lent w g l) (f : Fr S w w') (h1 : ¬ S g) : Lent w' g l :=
  row_kept h f (fun k hk => by simp [Value.ownBlock] at hk; subst hk; exact h1)
theorem Lent.lt {w : World} {g : Nat} {l : List Nat} (h : Lent w g l) : g < w.heap.size := (World.ownsRow.lt h g rfl).2
theorem Lent.seen {w : World} {g : Nat} {l : List Nat} (h : Lent w g l) (hl : l.length ≤ 1048576) : Seen w (.slice (some ⟨g, 0, none⟩) l.length (l.length + 7)) l := by
  have h1 := row_shrink (k := l.length) h (by omega)
  rw [wordCells_take, marks_front] at h1
  exact Seen.of_row h1 (by omega)

set_option maxRecDepth 100000 in
set_option maxHeartbeats 2000000 in
theorem eqBitmap_int (W H : Int) (v u : Value) (l : List Nat) (w : World) (ha : Seen w v l) (hb : Seen w u l) :
    Calls Try.prog 23 #[.agg #[.int .i64 W, .int .i64 H, v], .agg #[.int .i64 W, .int .i64 H, u]] w fun e w' => e = .returned (.bool true) ∧ Fr (fun _ => False) w w' := by
  have HQ : Hid (∀ w', Fr (fun _ => False) w w' → Calls Try.prog 38 #[v, u] w' fun e w'' => e = .returned (.bool true) ∧ ∃ q, w'' = w'.drewN q) := fun w' hf => eqw_same v u l l w' (ha.kept hf) (hb.kept hf) rfl true (by show true = _; simp)
  obtain ⟨ao, ca, rfl, hla, _⟩ := ha
  obtain ⟨bo, cb, rfl, hlb, _⟩ := hb
  have hw1 : (W == W) = true := by simp
  have hw2 : (H == H) = true := by simp
  go_enter Try.func23, Try.ntmps23
  go_wp2_with fail
  refine (HQ.out _ (((Fr.refl _ _).alloc _).alloc _)).mono ?_
  rintro e w1 ⟨rfl, q, hw1⟩
  have HF : Hid (Fr (fun _ => False) w w1) := by rw [hw1]; exact (((Fr.refl _ _).alloc _).alloc _).drewN q
  clear hw1
  go_wp2_with fail
  go_ret
  exact ⟨rfl, HF.out⟩

end Go.Proofs.Ytodgdbbhllejkaa
