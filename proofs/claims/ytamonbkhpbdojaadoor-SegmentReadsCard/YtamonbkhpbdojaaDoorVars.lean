/- 'BitsVars', by contracts. -/
import Derived.Test.YtamonbkhpbdojaaDoorWakes
import Derived.Test.YtamonbkhpbdojaaDoorMath
import Derived.Test.YtamonbkhpbdojaaDoorCut
namespace Go.Proofs.YtamonbkhpbdojaaDoor
set_option maxRecDepth 100000
open Go.RowKit

set_option maxRecDepth 100000 in
set_option maxHeartbeats 1000000 in
theorem copy_some (a : Addr) (n cap : Nat) (l : List Nat) (w : World) (hl : l.length = n) (hn : n ≤ 140737488355328) (hc : ∀ (j : Nat) (u : Value), (byteCells l)[j]? = some u → w.cell? (a.add j) = some u) :
    Calls Tryd.prog 19 #[.slice (some a) n cap] w fun e w' => ∃ rv, e = .returned rv ∧ w'.ownsRow w.heap.size 5 1 rv n (byteCells l) ∧ Below w.heap.size w w' := by
  obtain ⟨i0, hi, hz0, hz1, hz2⟩ := info_parts Tryd.info5
  have HC : Hid (∀ (j : Nat) (u : Value), (byteCells l)[j]? = some u → w.cell? (a.add j) = some u) := hc
  clear hc
  have hown : w.ownsRow w.heap.size 5 1 (.slice none 0 0) 0 [] := World.ownsRow_nil _ _ _ _
  go_enter Tryd.func19, Tryd.ntmps19
  go_wp2_with (first | (at_builtin; refine wpList_append_own _ rfl _ _ 25 rfl w.heap.size 5 i0 (.int .u8 0) 1 1 Tryd.underlying25 hi hz0 hz1 hz2 rfl (by decide) _ _ _ rfl hown a n cap (byteCells l) rfl ?c0 ?c1 ?c2 ?c3 ?c4 ?c5 ?_))
  case c0 => rw [length_byteCells]; omega
  case c1 => exact HC.out
  case c2 => exact byteCells_one l
  case c3 => unfold maxLen; omega
  case c4 => omega
  case c5 => simp
  intro v' w1 hown' hgrow hnn
  have HO : Hid (w1.ownsRow w.heap.size 5 1 v' n (byteCells l)) := by
    exact hown'
  have HB : Hid (Below w.heap.size w w1) := (Below.refl _ _).grown hgrow (Nat.le_refl _) (fun k hk => by simp [Value.ownBlock] at hk)
  clear hown' hgrow hnn hown
  go_wp2
  go_ret
  exact ⟨v', rfl, HO.out, HB.out⟩

theorem left_is (br : Nat) (v : Value) (l : List Nat) (pos : Nat) (y : Int) (w : World) (h : RAt w br v l pos) (hy : ((8 * l.length - pos : Nat) : Int) = y) :
    Calls Tryd.prog 65 #[.pointer (some ⟨br, 0, none⟩)] w fun e w' => e = .returned (.int .i64 y) ∧ ∃ q, w' = w.drewN q := by
  subst hy; exact left_any br v l pos w h

def cnt (m : Nat) : Nat := if m = 0 then 0 else (groups m).length
theorem cnt_zero : cnt 0 = 0 := rfl
theorem cnt_pos (m : Nat) (h : 0 < m) : cnt m = 1 + cnt (m / 128) := by
  unfold cnt
  rw [if_neg (by omega)]
  by_cases hs : m < 128
  · rw [if_pos (by omega), groups_small m hs]; simp
  · rw [if_neg (by omega), groups_more m (by omega)]; simp; omega
theorem len_cnt (n : Nat) : (groups n).length = 1 + cnt (n / 128) := by
  by_cases hs : n < 128
  · rw [show n / 128 = 0 from by omega, cnt_zero, groups_small n hs]; rfl
  · rw [groups_more n (by omega)]
    unfold cnt
    rw [if_neg (by omega)]; simp; omega

/-- A slice of words that can be read. -/
def WordsAt (w : World) (ao : Option Addr) (n : Nat) (N : Nat → Nat) : Prop :=
  n ≤ 9223372036854775807 ∧ (0 < n → ∃ b off, ao = some ⟨b, off, none⟩ ∧ ∀ j, j < n → w.cell? ⟨b, off + j, none⟩ = some (.int .u64 (N j))) ∧ ∀ j, j < n → N j < 18446744073709551616

end Go.Proofs.YtamonbkhpbdojaaDoor
