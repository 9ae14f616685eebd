/- A reader: 'Left' and 'gather'. -/
import Derived.Test.YtamonbkhpbdojaaDoorBytes
namespace Go.Proofs.YtamonbkhpbdojaaDoor
set_option maxRecDepth 100000
open Go.RowKit

/-- A reader: its block br, its bytes' slice v, its bytes, the bit that comes next. -/
structure RAt (w : World) (br : Nat) (v : Value) (l : List Nat) (pos : Nat) : Prop where
  blk : w.heap[br]? = some (.cells #[v, .int .i64 (pos : Int)] 109 (0, 0))
  own : w.ownsRow 0 5 1 v l.length (byteCells l)
  le : pos ≤ 8 * l.length
  lim : l.length ≤ 140737488355328
  byt : ∀ x ∈ l, x < 256

theorem RAt.lt {w : World} {br : Nat} {v : Value} {l : List Nat} {pos : Nat} (h : RAt w br v l pos) : br < w.heap.size := lt_of_block h.blk
theorem RAt.rowlt {w : World} {br : Nat} {v : Value} {l : List Nat} {pos : Nat} (h : RAt w br v l pos) : ∀ k, v.ownBlock = some k → k < w.heap.size := fun k hk => (h.own.lt k hk).2
theorem RAt.rowne {w : World} {br : Nat} {v : Value} {l : List Nat} {pos : Nat} (h : RAt w br v l pos) : v.ownBlock ≠ some br := by
  intro e
  rcases h.own.2 with ⟨rfl, _⟩ | ⟨g, cap, cur, rfl, _, hg, _⟩
  · simp [Value.ownBlock] at e
  · simp [Value.ownBlock] at e
    subst e
    rw [h.blk] at hg
    simp at hg
theorem row_kept {w w' : World} {b e n : Nat} {v : Value} {xs : List Value} {S : Nat → Prop} (h : w.ownsRow b e 1 v n xs) (f : Fr S w w') (h2 : ∀ k, v.ownBlock = some k → ¬ S k) : w'.ownsRow b e 1 v n xs := by
  refine ⟨h.1, ?_⟩
  rcases h.2 with hn | ⟨g, cap, cur, rfl, hb, hgg, rest⟩
  · exact Or.inl hn
  · refine Or.inr ⟨g, cap, cur, rfl, hb, ?_, rest⟩
    rw [f.block g (lt_of_block hgg) (h2 g rfl)]
    exact hgg
theorem RAt.kept {w w' : World} {br : Nat} {v : Value} {l : List Nat} {pos : Nat} {S : Nat → Prop} (h : RAt w br v l pos) (f : Fr S w w') (h1 : ¬ S br) (h2 : ∀ k, v.ownBlock = some k → ¬ S k) : RAt w' br v l pos :=
  ⟨by rw [f.block br h.lt h1]; exact h.blk, row_kept h.own f h2, h.le, h.lim, h.byt⟩
theorem RAt.drewN {w : World} {br : Nat} {v : Value} {l : List Nat} {pos : Nat} (h : RAt w br v l pos) (n : Nat) : RAt (w.drewN n) br v l pos :=
  h.kept (S := fun _ => False) ((Fr.refl _ _).drewN n) (fun hh => hh) (fun _ _ hh => hh)
theorem RAt.moved {w : World} {br : Nat} {v : Value} {l : List Nat} {pos pos' : Nat} {P : Int} (h : RAt w br v l pos) (hP : P = (pos' : Int)) (hle : pos' ≤ 8 * l.length) : RAt (w.setCell ⟨br, 1, none⟩ (.int .i64 P)) br v l pos' := by
  subst hP
  exact ⟨two_set1 h.blk, ownsRow_setCell_other h.own (fun e => h.rowne e) _, hle, h.lim, h.byt⟩

/-- The length of the reader's slice, whatever its form. -/
theorem RAt.form {w : World} {br : Nat} {v : Value} {l : List Nat} {pos : Nat} (h : RAt w br v l pos) : ∃ ao cap, v = .slice ao l.length cap ∧ (ao = none → l = []) := by
  rcases h.own.2 with ⟨rfl, e⟩ | ⟨g, cap, cur, rfl, _, _, hc, hm, _⟩
  · exact ⟨none, 0, by rw [e], fun _ => List.eq_nil_of_length_eq_zero e⟩
  · exact ⟨_, cap, rfl, fun e => by cases e⟩

set_option maxRecDepth 100000 in
set_option maxHeartbeats 1000000 in
theorem left_any (br : Nat) (v : Value) (l : List Nat) (pos : Nat) (w : World) (h : RAt w br v l pos) :
    Calls Tryd.prog 65 #[.pointer (some ⟨br, 0, none⟩)] w fun e w' => e = .returned (.int .i64 ((8 * l.length - pos : Nat) : Int)) ∧ ∃ q, w' = w.drewN q := by
  obtain ⟨c0, c1, cf⟩ := cell_of_two h.blk
  have hle := h.le
  have hlim := h.lim
  obtain ⟨ao, cap, rfl, _⟩ := h.form
  clear h
  go_enter Tryd.func65, Tryd.ntmps65
  go_wp2
  go_quiet (fail)
  go_wp2
  go_ret
  exact ⟨congrArg (fun x => Ending.returned (Value.int .i64 x)) (by omega), _, rfl⟩

/-- The next bits of a reader. -/
def nextBits (l : List Nat) (pos wd : Nat) : List Bool := ((unpack l).drop pos).take wd
theorem length_nextBits (l : List Nat) (pos wd : Nat) (h : pos + wd ≤ 8 * l.length) : (nextBits l pos wd).length = wd := by
  unfold nextBits; rw [List.length_take, List.length_drop, length_unpack]; omega
theorem nextBits_add (l : List Nat) (pos a b : Nat) : nextBits l pos (a + b) = nextBits l pos a ++ nextBits l (pos + a) b := by
  unfold nextBits
  rw [List.take_add, List.drop_drop]
theorem nextBits_zero (l : List Nat) (pos : Nat) : nextBits l pos 0 = [] := rfl

theorem or_shift (a b s : Nat) (hb : b < 2 ^ s) : (a * 2 ^ s ||| b) = a * 2 ^ s + b := by
  rw [Nat.mul_comm, Nat.two_pow_add_eq_or_of_lt hb]

theorem num_step (l : List Nat) (pos a s : Nat) (hp : pos + a + s ≤ 8 * l.length) (hs : 0 < s) (h8 : s + (pos + a) % 8 ≤ 8) :
    num (nextBits l pos (a + s)) = (num (nextBits l pos a) * 2 ^ s ||| l[(pos + a) / 8]?.getD 0 * 2 ^ ((pos + a) % 8) % 256 / 2 ^ (8 - s)) := by
  have e : l[(pos + a) / 8]?.getD 0 * 2 ^ ((pos + a) % 8) % 256 / 2 ^ (8 - s) = num (nextBits l (pos + a) s) := (num_next l (pos + a) s h8 hp hs).symm
  rw [e, nextBits_add, num_append, length_nextBits _ _ _ hp]
  have hlt := num_lt (nextBits l (pos + a) s)
  rw [length_nextBits _ _ _ hp] at hlt
  rw [or_shift _ _ _ hlt]

theorem shift_lt (n a s c : Nat) (h : n < 2 ^ a) (hs : a + s ≤ c) : n * 2 ^ s < 2 ^ c := by
  have h1 : n * 2 ^ s < 2 ^ a * 2 ^ s := Nat.mul_lt_mul_of_pos_right h (Nat.pow_pos (by omega))
  rw [← Nat.pow_add] at h1
  exact Nat.lt_of_lt_of_le h1 (Nat.pow_le_pow_right (by omega) hs)

theorem gat8 (n x s u t : Nat) (h : n * 2 ^ s < 2 ^ 8) : bits .or .u8 ((n : Int) * 2 ^ s % 256) ((x : Int) * 2 ^ u % 256 / 2 ^ t) = ((n * 2 ^ s ||| x * 2 ^ u % 256 / 2 ^ t : Nat) : Int) := by
  have e1 : ((n : Int) * 2 ^ s % 256) = ((n * 2 ^ s : Nat) : Int) := by
    have : ((n * 2 ^ s : Nat) : Int) % 256 = ((n * 2 ^ s : Nat) : Int) := by omega
    rw [← this]; simp
  have e2 : ((x : Int) * 2 ^ u % 256 / 2 ^ t) = ((x * 2 ^ u % 256 / 2 ^ t : Nat) : Int) := by simp
  rw [e1, e2]
  refine or_u8 _ _ h (Nat.lt_of_le_of_lt (Nat.div_le_self _ _) (Nat.mod_lt _ (by omega)))

set_option maxRecDepth 100000 in
set_option maxHeartbeats 1000000 in
theorem gather8_end (br : Nat) (v : Value) (l : List Nat) (pos wd : Nat) (w : World) (h : RAt w br v l pos) (_hw : wd ≤ 64) (hf : 8 * l.length < pos + wd) :
    Calls Tryd.prog 78 #[.pointer (some ⟨br, 0, none⟩), .int .i64 wd] w fun e w' => e = .returned (.tuple #[.int .u8 0, .int .i64 14]) ∧ ∃ q, w' = w.drewN q := by
  have HA : Hid (RAt w br v l pos) := h
  have hle := h.le
  clear h
  go_enter Tryd.func78, Tryd.ntmps78
  go_wp2_with fail
  refine (left_any br v l pos _ HA.out).mono ?_
  rintro e w1 ⟨rfl, q, rfl⟩
  go_wp2_with fail
  go_ret2
  exact ⟨rfl, _, rfl⟩

set_option maxRecDepth 100000 in
set_option maxHeartbeats 1000000 in
theorem gather8_any (br : Nat) (v : Value) (l : List Nat) (pos wd : Nat) (w : World) (h : RAt w br v l pos) (hw : wd ≤ 8) (hf : pos + wd ≤ 8 * l.length) :
    Calls Tryd.prog 78 #[.pointer (some ⟨br, 0, none⟩), .int .i64 wd] w fun e w' => e = .returned (.tuple #[.int .u8 (num (nextBits l pos wd)), .int .i64 0]) ∧ RAt w' br v l (pos + wd) ∧ Fr (fun k => k = br) w w' := by
  have HA : Hid (RAt w br v l pos) := h
  have hle := h.le
  have hlim := h.lim
  clear h
  go_enter Tryd.func78, Tryd.ntmps78
  go_wp2_with fail
  refine (left_any br v l pos _ HA.out).mono ?_
  rintro e w1 ⟨rfl, q, rfl⟩
  have hlf : wd ≤ 8 * l.length - pos := by omega
  generalize 8 * l.length - pos = lf at hlf
  have ht : decide (lf < wd) = false := by simp; omega
  go_wp2_with fail
  go_loopw [1, 6, 7, 8] (fun t n _ _ wr => ∃ k : Nat, k ≤ wd ∧ t = .int .i64 k ∧ n = .int .u8 (num (nextBits l pos (wd - k))) ∧ RAt wr br v l (pos + (wd - k)) ∧ Fr (fun k => k = br) w wr) (fun t _ _ _ _ => (intOf t).toNat)
  case atStart => exact ⟨wd, Nat.le_refl _, rfl, by rw [Nat.sub_self]; rfl, by rw [Nat.sub_self]; exact HA.out.drewN _, (Fr.refl _ _).drewN _⟩
  case round =>
    obtain ⟨k, hk, rfl, rfl, hat, hfr⟩ := hrel
    have HS : Hid (Fr (fun k => k = br) w wr) := hfr
    have HR : Hid (RAt wr br v l (pos + (wd - k))) := hat
    by_cases hlt : 0 < k
    · obtain ⟨c0, c1, cf⟩ := cell_of_two hat.blk
      obtain ⟨g, cap, rfl, _, hc, hm⟩ := row_form hat.own (by omega)
      have hcx : wr.cell? ⟨g, (pos + (wd - k)) / 8, none⟩ = some (.int .u8 (l[(pos + (wd - k)) / 8]?.getD 0)) := by
        rw [hat.own.cellAt _ (by omega), byteCells_get, List.getElem?_eq_getElem (by omega)]; rfl
      have HM : Hid (∀ s, 0 < s → s ≤ k → s + (pos + (wd - k)) % 8 ≤ 8 → num (nextBits l pos (wd - (k - s))) = (num (nextBits l pos (wd - k)) * 2 ^ s ||| l[(pos + (wd - k)) / 8]?.getD 0 * 2 ^ ((pos + (wd - k)) % 8) % 256 / 2 ^ (8 - s))) := fun s h1 h2 h3 => by
        rw [show wd - (k - s) = wd - k + s from by omega]; exact num_step l pos (wd - k) s (by omega) h1 h3
      have hx : l[(pos + (wd - k)) / 8]?.getD 0 < 256 := by
        rw [List.getElem?_eq_getElem (by omega)]
        exact hat.byt _ (List.getElem_mem _)
      have hNl : Hid (num (nextBits l pos (wd - k)) < 2 ^ (wd - k)) := by
        have := num_lt (nextBits l pos (wd - k)); rw [length_nextBits _ _ _ (by omega)] at this; exact this
      have HPe : Hid (∀ s, s ≤ k → pos + (wd - (k - s)) = pos + (wd - k) + s) := fun s hs => by omega
      generalize l[(pos + (wd - k)) / 8]?.getD 0 = X at hcx hx HM
      have hPle : pos + (wd - k) + k ≤ 8 * l.length := by omega
      generalize pos + (wd - k) = P at c1 hcx HR HM HPe hPle
      generalize num (nextBits l pos (wd - k)) = N at HM hNl ⊢
      clear hat hfr
      unfold maxLen at hm
      by_cases hmn : k ≤ 8 - P % 8
      · go_wp2
        go_quiet (fail)
        go_wp2
        go_roundw
        case rel => exact ⟨k - k, by omega, by rw [Nat.sub_self]; rfl, by rw [HM.out k hlt (Nat.le_refl _) (by omega)]; exact congrArg (Value.int .u8) (gat8 N X k _ _ (shift_lt N _ _ 8 hNl.out (by omega))), by rw [HPe.out k (Nat.le_refl _)]; exact (HR.out.drewN nq).moved (by omega) (by omega), (HS.out.drewN nq).setCell (fun _ => rfl) _⟩
        case measure => simp [intOf]; omega
      · go_wp2
        go_quiet (fail)
        go_wp2
        go_roundw
        case rel => exact ⟨k - (8 - P % 8), by omega, congrArg (Value.int .i64) (by omega), by rw [HM.out (8 - P % 8) (by omega) (by omega) (by omega)]; exact congrArg (Value.int .u8) (gat8 N X (8 - P % 8) _ _ (shift_lt N _ _ 8 hNl.out (by omega))), by rw [HPe.out (8 - P % 8) (by omega)]; exact (HR.out.drewN nq).moved (by omega) (by omega), (HS.out.drewN nq).setCell (fun _ => rfl) _⟩
        case measure => simp [intOf]; omega
    · have hk0 : k = 0 := by omega
      subst hk0
      go_wp2
      go_ret2
      exact ⟨rfl, hat, hfr⟩

end Go.Proofs.YtamonbkhpbdojaaDoor
