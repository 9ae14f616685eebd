/- The plain reader: bits one by one. -/
import Derived.Test.YtamonbkhpbdojaaDoorOver
namespace Go.Proofs.YtamonbkhpbdojaaDoor
set_option maxRecDepth 100000
open Go.RowKit

/-- A plain reader: its block bq, the bytes' slice v that it was handed, the bytes, the bit that comes next. -/
structure QAt (w : World) (bq : Nat) (ao : Option Addr) (cap : Nat) (l : List Nat) (pos : Nat) : Prop where
  blk : w.heap[bq]? = some (.cells #[.slice ao l.length cap, .int .i64 (pos : Int)] 71 (0, 0))
  seen : l ≠ [] → ∃ b off, ao = some ⟨b, off, none⟩ ∧ ∀ j, j < l.length → w.cell? ⟨b, off + j, none⟩ = some (.int .u8 (l[j]?.getD 0))
  le : pos ≤ 8 * l.length
  lim : l.length ≤ 140737488355328
  byt : ∀ x ∈ l, x < 256

theorem QAt.lt {w : World} {bq : Nat} {ao : Option Addr} {cap : Nat} {l : List Nat} {pos : Nat} (h : QAt w bq ao cap l pos) : bq < w.heap.size := lt_of_block h.blk
theorem QAt.apart {w : World} {bq : Nat} {ao : Option Addr} {cap : Nat} {l : List Nat} {pos b off : Nat} (h : QAt w bq ao cap l pos) (hl : l ≠ []) (e : ao = some ⟨b, off, none⟩) : b ≠ bq := by
  intro hb
  obtain ⟨b', off', e', hc⟩ := h.seen hl
  rw [e] at e'
  simp at e'
  obtain ⟨rfl, rfl⟩ := e'
  have h0 := hc 0 (List.length_pos_iff.2 hl)
  rw [hb] at h0
  simp only [World.cell?, h.blk] at h0
  rcases Nat.lt_or_ge (off + 0) 2 with h2 | h2
  · have : off + 0 = 0 ∨ off + 0 = 1 := by omega
    rcases this with e | e <;> (rw [e] at h0; simp at h0)
  · rw [Array.getElem?_eq_none (by simpa using h2)] at h0; simp at h0
theorem QAt.kept {w w' : World} {bq : Nat} {ao : Option Addr} {cap : Nat} {l : List Nat} {pos : Nat} {S : Nat → Prop} (h : QAt w bq ao cap l pos) (f : Fr S w w') (h1 : ¬ S bq) (h2 : l ≠ [] → ∀ b off, ao = some ⟨b, off, none⟩ → ¬ S b) : QAt w' bq ao cap l pos := by
  refine ⟨by rw [f.block bq h.lt h1]; exact h.blk, fun hl => ?_, h.le, h.lim, h.byt⟩
  obtain ⟨b, off, e, hc⟩ := h.seen hl
  exact ⟨b, off, e, fun j hj => f.cell (hc j hj) (h2 hl b off e)⟩
theorem QAt.drewN {w : World} {bq : Nat} {ao : Option Addr} {cap : Nat} {l : List Nat} {pos : Nat} (h : QAt w bq ao cap l pos) (n : Nat) : QAt (w.drewN n) bq ao cap l pos :=
  h.kept (S := fun _ => False) ((Fr.refl _ _).drewN n) (fun hh => hh) (fun _ _ _ _ hh => hh)
theorem QAt.moved {w : World} {bq : Nat} {ao : Option Addr} {cap : Nat} {l : List Nat} {pos pos' : Nat} {P : Int} (h : QAt w bq ao cap l pos) (hP : P = (pos' : Int)) (hle : pos' ≤ 8 * l.length) : QAt (w.setCell ⟨bq, 1, none⟩ (.int .i64 P)) bq ao cap l pos' := by
  subst hP
  refine ⟨two_set1 h.blk, fun hl => ?_, hle, h.lim, h.byt⟩
  obtain ⟨b, off, e, hc⟩ := h.seen hl
  exact ⟨b, off, e, fun j hj => (Fr.one w bq 1 _).cell (hc j hj) (h.apart hl e)⟩

set_option maxRecDepth 100000 in
set_option maxHeartbeats 1000000 in
theorem qleft_any (bq : Nat) (ao : Option Addr) (cap : Nat) (l : List Nat) (pos : Nat) (w : World) (h : QAt w bq ao cap l pos) :
    Calls Tryd.prog 60 #[.pointer (some ⟨bq, 0, none⟩)] w fun e w' => e = .returned (.int .i64 ((8 * l.length - pos : Nat) : Int)) ∧ ∃ q, w' = w.drewN q := by
  obtain ⟨c0, c1, cf⟩ := cell_of_two h.blk
  have hle := h.le
  have hlim := h.lim
  clear h
  go_enter Tryd.func60, Tryd.ntmps60
  go_wp2
  go_quiet (fail)
  go_wp2
  go_ret
  exact ⟨congrArg (fun x => Ending.returned (Value.int .i64 x)) (by omega), _, rfl⟩

set_option maxRecDepth 100000 in
set_option maxHeartbeats 1000000 in
theorem qtake_width (p : Value) (wd : Int) (w : World) (h : wd < 0 ∨ 64 < wd) :
    Calls Tryd.prog 48 #[p, .int .i64 wd] w fun e w' => e = .returned (.tuple #[.int .u64 0, .int .i64 11]) ∧ w' = w := by
  rcases h with h | h
  · go_enter Tryd.func48, Tryd.ntmps48
    go_wp2
    go_ret2
    exact ⟨rfl, rfl⟩
  · go_enter Tryd.func48, Tryd.ntmps48
    go_wp2
    go_ret2
    exact ⟨rfl, rfl⟩

set_option maxRecDepth 100000 in
set_option maxHeartbeats 1000000 in
theorem qtake_end (bq : Nat) (ao : Option Addr) (cap : Nat) (l : List Nat) (pos wd : Nat) (w : World) (h : QAt w bq ao cap l pos) (hw : wd ≤ 64) (hf : 8 * l.length < pos + wd) :
    Calls Tryd.prog 48 #[.pointer (some ⟨bq, 0, none⟩), .int .i64 wd] w fun e w' => e = .returned (.tuple #[.int .u64 0, .int .i64 14]) ∧ ∃ q, w' = w.drewN q := by
  have HA : Hid (QAt w bq ao cap l pos) := h
  have hle := h.le
  clear h
  go_enter Tryd.func48, Tryd.ntmps48
  go_wp2_with fail
  refine (qleft_any bq ao cap l pos _ HA.out).mono ?_
  rintro e w1 ⟨rfl, q, rfl⟩
  go_wp2_with fail
  go_ret2
  exact ⟨rfl, _, rfl⟩

theorem nextBits_one (l : List Nat) (p : Nat) (h : p < 8 * l.length) : num (nextBits l p 1) = l[p / 8]?.getD 0 / 2 ^ (7 - p % 8) % 2 := by
  have h1 : nextBits l p 1 = [bit (unpack l) p] := by
    unfold nextBits
    rw [List.take_one, List.head?_drop]
    unfold bit
    rw [List.getElem?_eq_getElem (by rw [length_unpack]; exact h)]
    rfl
  rw [h1, bit_unpack]
  simp only [h, decide_true, Bool.true_and]
  have : ∀ b : Bool, num [b] = b.toNat := by decide
  rw [this, Nat.toNat_testBit]
theorem num_one_more (l : List Nat) (p a : Nat) (h : p + a < 8 * l.length) : num (nextBits l p (a + 1)) = 2 * num (nextBits l p a) + l[(p + a) / 8]?.getD 0 / 2 ^ (7 - (p + a) % 8) % 2 := by
  rw [nextBits_add, num_append, length_nextBits _ _ _ (by omega), nextBits_one _ _ h]; omega

end Go.Proofs.YtamonbkhpbdojaaDoor
