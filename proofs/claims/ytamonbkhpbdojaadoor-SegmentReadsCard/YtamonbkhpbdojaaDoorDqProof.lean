/- 'SegmentReads' returns true, whatever it is given, and leaves its argument as it was. No condition but the card's own: the table 'rules' lies as the program's text lays it (the seat's repository is a pruned copy: nothing is said of code outside of it). -/
import Derived.Test.YtamonbkhpbdojaaDoorQ2
import Derived.Test.YtamonbkhpbdojaaDoorDa
import Derived.Test.YtamonbkhpbdojaaDoorMa
import Derived.Test.YtamonbkhpbdojaaDoorSk
import Derived.Test.YtamonbkhpbdojaaDoorSx
import Derived.Deep.CutRange
import Derived.Deep.CutBlock
import Derived.Deep.Light
import Derived.Test.YtamonbkhpbdojaaDoorSw
import Derived.Deep.RegionHeld3
import Derived.Test.YtamonbkhpbdojaaDoorSv
import Derived.Test.YtamonbkhpbdojaaDoorTie
import Derived.Test.YtamonbkhpbdojaaDoorCards
import Derived.LaidMore
import Derived.Stop.Joined
import Derived.SevenTiedAt
import Derived.ProofKit
import Derived.OpenShut
import Derived.ChangeOld
import Derived.Lib.SmallJoins
import Derived.Deep.Slices
import Derived.Deep.Strs
namespace Go.Proofs.YtamonbkhpbdojaaDoor
set_option maxRecDepth 100000
open Go.RowKit

def marks (l : List Nat) (k : Nat) : List Nat := l ++ List.replicate k 165
theorem marks_zero (l : List Nat) : marks l 0 = l := by simp [marks]
theorem marks_succ (l : List Nat) (k : Nat) : marks l (k + 1) = marks l k ++ [165] := by unfold marks; rw [List.replicate_succ', List.append_assoc]
theorem length_marks (l : List Nat) (k : Nat) : (marks l k).length = l.length + k := by simp [marks]

set_option maxRecDepth 100000 in
set_option maxHeartbeats 2000000 in
theorem lend_any (ao : Option Addr) (cap : Nat) (l : List Nat) (w : World) (hl : l.length ≤ 140737488351232) (hnone : ao = none → l = [] ∧ cap = 0)
    (hc : l ≠ [] → ∃ b off, ao = some ⟨b, off, none⟩ ∧ ∀ j, j < l.length → w.cell? ⟨b, off + j, none⟩ = some (.int .u8 (l[j]?.getD 0))) :
    Calls Tryd.prog 15 #[.slice ao l.length cap] w fun e w' => e = .returned (.slice (some ⟨w.heap.size, 0, none⟩) l.length (l.length + 7)) ∧ w'.ownsRow w.heap.size 5 1 (.slice (some ⟨w.heap.size, 0, none⟩) (l.length + 7) (l.length + 7)) (l.length + 7) (byteCells (marks l 7)) ∧ Below w.heap.size w w' := by
  obtain ⟨i0, hi, hz0, hz1, hz2⟩ := info_parts Tryd.info5
  have HC : Hid (l ≠ [] → ∃ b off, ao = some ⟨b, off, none⟩ ∧ ∀ j, j < l.length → w.cell? ⟨b, off + j, none⟩ = some (.int .u8 (l[j]?.getD 0))) := hc
  have HNO : Hid (ao = none → l = [] ∧ cap = 0) := hnone
  clear hc hnone
  obtain ⟨n, hn⟩ : ∃ n, n = l.length := ⟨_, rfl⟩
  rw [← hn] at hl ⊢
  have HN : Hid (n = l.length) := hn
  clear hn
  go_enter Tryd.func15, Tryd.ntmps15
  obtain ⟨B, hB⟩ : ∃ B, B = w.heap.size := ⟨_, rfl⟩
  rw [← hB]
  go_wp2_with (first | (at_make; refine wpList_make_own _ rfl _ _ 25 rfl B 5 i0 (.int .u8 0) 1 Tryd.underlying25 hi hz0 hz1 .i64 .i64 _ (n + 7) rfl rfl ?_ ?_ ?_ ?_ ?_))
  · omega
  · rw [hz2]; omega
  · unfold maxLen; omega
  · omega
  · intro w1 hown1 hgrow1
    have HB1 : Hid (Below B w w1) := by rw [hB]; exact (Below.refl _ _).grown hgrow1 (Nat.le_refl _) (fun k hk => by cases hk)
    rw [← hB] at hown1 ⊢
    have HBE : Hid (B = w.heap.size) := hB
    clear hgrow1 hB
    go_wp2_with (first | (at_builtin; refine wpList_append_fits_any _ rfl _ _ 25 rfl B 5 i0 1 Tryd.underlying25 hi hz1 B 0 (n + 7) [] rfl hown1 ao n cap (byteCells l) rfl ?_ ?_ ?_ ?_ ?_ ?_))
    · rw [length_byteCells, ← HN.out]; omega
    · intro e
      have := HNO.out e
      rw [this.1] at HN
      exact ⟨HN.out, this.2⟩
    · intro ad e j u hu
      have hne : l ≠ [] := by intro e2; rw [e2] at hu; simp [byteCells] at hu
      obtain ⟨b, off, e3, hc⟩ := HC.out hne
      rw [e3] at e
      simp only [Option.some.injEq] at e
      subst e
      rw [byteCells_get] at hu
      have hj : j < l.length := by
        rcases Nat.lt_or_ge j l.length with h | h
        · exact h
        · rw [List.getElem?_eq_none h] at hu; simp at hu
      rw [List.getElem?_eq_getElem hj] at hu
      simp at hu
      subst hu
      rw [show (⟨b, off, none⟩ : Addr).add j = ⟨b, off + j, none⟩ from by unfold Addr.add; split <;> simp_all]
      have h1 := hc j hj
      rw [List.getElem?_eq_getElem hj] at h1
      exact cell_later (by rw [← HBE.out]; exact HB1.out) h1
    · exact byteCells_one l
    · omega
    · intro w2 hown2 hgrow2
      have HB2 : Hid (Below B w w2) := HB1.out.grown hgrow2 (by have := HB1.out.size; have := HBE.out; omega) (fun k hk => by simp at hk; omega)
      have HO2 : Hid (w2.ownsRow B 5 1 (.slice (some ⟨B, 0, none⟩) (n + 0) (n + 7)) (n + 0) (byteCells (marks l 0))) := by
        rw [marks_zero]
        exact hown2
      clear hown1 hown2 hgrow2
      go_wp2_with fail
      go_loopw [3, 4] (fun x i wr => ∃ k : Nat, k ≤ 7 ∧ i = .int .i64 k ∧ x = .slice (some ⟨B, 0, none⟩) (n + k) (n + 7) ∧ wr.ownsRow B 5 1 (.slice (some ⟨B, 0, none⟩) (n + k) (n + 7)) (n + k) (byteCells (marks l k)) ∧ Below B w wr) (fun _ i _ => 7 - (intOf i).toNat)
      case atStart => exact ⟨0, by omega, rfl, by simp, HO2.out, HB2.out⟩
      case round =>
        obtain ⟨k, hk, rfl, rfl, hown, hbel⟩ := hrel
        have HO : Hid (wr.ownsRow B 5 1 (.slice (some ⟨B, 0, none⟩) (n + k) (n + 7)) (n + k) (byteCells (marks l k))) := hown
        have HB3 : Hid (Below B w wr) := hbel
        have hs : B ≤ wr.heap.size := by have := hbel.size; have := HBE.out; omega
        clear hbel
        by_cases hlt : k < 7
        · go_wp2_with (first | (at_builtin; refine wpList_append_fits _ rfl _ _ 25 rfl B 5 i0 1 Tryd.underlying25 hi hz1 B (n + k) (n + 7) (byteCells (marks l k)) rfl (hown.alloc _) ⟨wr.heap.size, 0, none⟩ 1 1 _ rfl rfl (cell_one_new _ _ _) ?_ ?_ ?_))
          · intro u hu; simp at hu; subst hu; rfl
          · omega
          · intro w3 hown3 hgrow3
            have HO3 : Hid (w3.ownsRow B 5 1 (.slice (some ⟨B, 0, none⟩) (n + (k + 1)) (n + 7)) (n + (k + 1)) (byteCells (marks l (k + 1)))) := by
              rw [marks_succ, byteCells_append, show n + (k + 1) = n + k + 1 from by omega]; exact hown3
            have HB4 : Hid (Below B w w3) := (HB3.out.alloc hs _).grown hgrow3 (by simp; omega) (fun k hk => by simp at hk; omega)
            clear hown3 hgrow3 hown
            go_wp2
            go_roundw
            case rel => exact ⟨k + 1, by omega, congrArg (Value.int .i64) (by omega), by rw [show n + (k + 1) = n + k + 1 from by omega], HO3.out, HB4.out⟩
            case measure => simp [intOf]; omega
        · have hk7 : k = 7 := by omega
          subst hk7
          clear hown
          go_wp2_with fail
          go_ret
          exact ⟨rfl, HO.out, HB3.out⟩

theorem marks_get (l : List Nat) (k : Nat) (h : k < 7) : (marks l 7)[l.length + k]? = some 165 := by
  unfold marks
  rw [List.getElem?_append_right (by omega), show l.length + k - l.length = k from by omega, List.getElem?_replicate, if_pos h]
theorem marks_front (l : List Nat) : (marks l 7).take l.length = l := by
  unfold marks
  rw [List.take_left]

set_option maxRecDepth 100000 in
set_option maxHeartbeats 2000000 in
theorem back_kit (g base : Nat) (u : Value) (l : List Nat) (w : World) (hl : l.length ≤ 140737488351232) (hrow : w.ownsRow base 5 1 (.slice (some ⟨g, 0, none⟩) (l.length + 7) (l.length + 7)) (l.length + 7) (byteCells (marks l 7))) (hu : SeenAt w u l) :
    Calls Tryd.prog 18 #[.slice (some ⟨g, 0, none⟩) l.length (l.length + 7), u] w fun e w' => e = .returned (.bool true) ∧ Fr (fun k => k = g) w w' := by
  have HRW : Hid (w.ownsRow base 5 1 (.slice (some ⟨g, 0, none⟩) (l.length + 7) (l.length + 7)) (l.length + 7) (byteCells (marks l 7))) := hrow
  have HSU : Hid (SeenAt w u l) := hu
  have HSX : Hid (SeenAt w (.slice (some ⟨g, 0, none⟩) l.length (l.length + 7)) l) := by
    have h1 := row_shrink (k := l.length) hrow (by omega)
    rw [byteCells_take, marks_front] at h1
    exact SeenAt.of_row h1 (by omega)
  obtain ⟨uo, ucap, rfl, _, _⟩ := hu
  clear hrow
  go_enter Tryd.func18, Tryd.ntmps18
  go_wp2_with fail
  refine (eq_same _ _ l l _ HSX.out HSU.out rfl true (by show true = _; simp)).mono ?_
  rintro e w1 ⟨rfl, q, hw1⟩
  have HR1 : Hid (w1.ownsRow base 5 1 (.slice (some ⟨g, 0, none⟩) (l.length + 7) (l.length + 7)) (l.length + 7) (byteCells (marks l 7))) := by rw [hw1]; exact row_kept HRW.out ((Fr.refl (fun _ => False) _).drewN q) (fun _ _ hh => hh)
  have HF1 : Hid (Fr (fun k => k = g) w w1) := by rw [hw1]; exact (Fr.refl _ _).drewN q
  clear hw1 HRW HSU HSX
  obtain ⟨n, hn⟩ : ∃ n, n = l.length := ⟨_, rfl⟩
  rw [← hn] at hl HR1 ⊢
  have HN : Hid (n = l.length) := hn
  clear hn
  go_wp2_with fail
  go_loop [5, 7] (fun ok i => ∃ k : Nat, k ≤ 7 ∧ ok = .bool true ∧ i = .int .i64 ((n : Int) + (k : Int))) (fun _ i => n + 7 - (intOf i).toNat)
  case atStart => exact ⟨0, by omega, rfl, by simp⟩
  case round =>
    obtain ⟨k, hk, rfl, rfl⟩ := hrel
    by_cases hlt : k < 7
    · have hcx : w1.cell? ⟨g, n + k, none⟩ = some (.int .u8 165) := by
        rw [HR1.out.cellAt (n + k) (by omega), byteCells_get, HN.out, marks_get l k hlt]; rfl
      go_wp2_with fail
      go_round
      case rel => exact ⟨k + 1, by omega, rfl, congrArg (Value.int .i64) (by omega)⟩
      case measure => simp [intOf]; omega
    · have hk7 : k = 7 := by omega
      subst hk7
      go_wp2_with fail
      go_loopw [8] (fun i wr => ∃ (k : Nat) (ys : List Value), k ≤ n + 7 ∧ i = .int .i64 k ∧ wr.ownsRow base 5 1 (.slice (some ⟨g, 0, none⟩) (n + 7) (n + 7)) (n + 7) ys ∧ Fr (fun k => k = g) w wr) (fun i _ => n + 7 - (intOf i).toNat)
      case atStart => exact ⟨0, _, Nat.zero_le _, rfl, HR1.out, HF1.out⟩
      case round =>
        obtain ⟨k, ys, hk, rfl, hown, hfr⟩ := hrel
        have HO2 : Hid (wr.ownsRow base 5 1 (.slice (some ⟨g, 0, none⟩) (n + 7) (n + 7)) (n + 7) ys) := hown
        have HF2 : Hid (Fr (fun k => k = g) w wr) := hfr
        by_cases hlt : k < n + 7
        · have hcx : ∃ x, wr.cell? ⟨g, k, none⟩ = some x := by
            rw [hown.cellAt k (by omega)]
            have hl := hown.1
            exact ⟨_, List.getElem?_eq_getElem (by omega)⟩
          obtain ⟨x, hcx⟩ := hcx
          have hfx := hown.frozenAt k
          clear hown hfr
          go_wp2_with fail
          go_roundw
          case rel => exact ⟨k + 1, _, by omega, congrArg (Value.int .i64) (by omega), (HO2.out.stored k _).1, HF2.out.setCell (p := ⟨g, k, none⟩) (fun _ => rfl) _⟩
          case measure => simp [intOf]; omega
        · clear hown hfr
          go_wp2_with fail
          go_ret
          exact ⟨rfl, HF2.out⟩

end Go.Proofs.YtamonbkhpbdojaaDoor

namespace Go.Proofs.YtamonbkhpbdojaaDoor
set_option maxRecDepth 100000
open Go.RowKit

theorem rvarF_whole (l : List Nat) : ∀ (f place n p : Nat), p % 8 = 0 → (rvarF l f place n p).2.2 % 8 = 0 := by
  intro f
  induction f with
  | zero => intro place n p h; simpa [rvarF] using h
  | succ f ih =>
    intro place n p h
    simp only [rvarF]
    split
    · exact h
    · split
      · show (p + 8) % 8 = 0; omega
      · split
        · show (p + 8) % 8 = 0; omega
        · exact ih _ _ _ (by omega)
theorem rvar_whole (l : List Nat) (a : Nat) : (rvar l (8 * a)).2.2 = 8 * ((rvar l (8 * a)).2.2 / 8) := by
  have := rvarF_whole l 10 0 0 (8 * a) (by omega)
  have : (rvar l (8 * a)).2.2 % 8 = 0 := this
  omega

abbrev Res := Nat × Seg × Nat × Nat

/-- A number's step: what is told, and where the reader stands. -/
theorem numQ_join (l : List Nat) (a lo hi : Nat) (f : Nat × Nat → Res) :
    ((numQ l (8 * a) lo hi).1 = 0 ∧ lo ≤ (numQ l (8 * a) lo hi).2 ∧ (numQ l (8 * a) lo hi).2 ≤ hi ∧ ∃ a', numS l a lo hi = (0, (numQ l (8 * a) lo hi).2, a') ∧ backTo (rvar l (8 * a)).2.1 (rvar l (8 * a)).2.2 (8 * a) = 8 * a' ∧ bindE (numS l a lo hi) f = f ((numQ l (8 * a) lo hi).2, a')) ∨
    ((numQ l (8 * a) lo hi).1 ≠ 0 ∧ (numQ l (8 * a) lo hi).2 = 0 ∧ (numS l a lo hi).1 = (numQ l (8 * a) lo hi).1 ∧ bindE (numS l a lo hi) f = ((numQ l (8 * a) lo hi).1, default)) := by
  have hw := rvar_whole l a
  unfold numQ numS
  by_cases h14 : (rvar l (8 * a)).2.1 = 14
  · right
    simp only [if_pos h14]
    exact ⟨by simp, by simp, by simp, bindE_no (by simp)⟩
  · simp only [if_neg h14]
    by_cases h : (rvar l (8 * a)).2.1 = 0 ∧ lo ≤ (rvar l (8 * a)).1 ∧ (rvar l (8 * a)).1 ≤ hi
    · left
      simp only [if_pos h]
      exact ⟨by simp, h.2.1, h.2.2, _, rfl, by rw [h.1, backTo_ok]; exact hw, bindE_ok (by simp)⟩
    · right
      simp only [if_neg h]
      exact ⟨by simp, by simp, by simp, bindE_no (by simp)⟩

/-- A number, whatever the fault so far. -/
def NumP (w : World) (br bq : Nat) (ao : Option Addr) (cap : Nat) (l : List Nat) (lo hi : Nat) (A : Prop) (f : Nat × Nat → Res) (R : Res) (e : Ending) (w' : World) : Prop :=
  ∃ x er' pos', e = .returned (.int .i64 ((x : Nat) : Int)) ∧ RD w' br bq ao cap l pos' er' ∧ Fr (fun k => k = br ∨ k = bq) w w' ∧ ((er' = 0 ∧ A ∧ lo ≤ x ∧ x ≤ hi ∧ ∃ a', pos' = 8 * a' ∧ R = f (x, a')) ∨ (er' ≠ 0 ∧ x = 0 ∧ R = (er', default)))
theorem rnum_j (br bq : Nat) (ao : Option Addr) (cap : Nat) (l : List Nat) (pos er lo hi : Nat) (y z : Int) (w : World) (A : Prop) (f : Nat × Nat → Res) (R : Res) (hy : y = lo) (hz : z = hi) (hlo : lo ≤ 9223372036854775807) (hhi : hi ≤ 9223372036854775807) (h : RD w br bq ao cap l pos er)
    (hj : (er = 0 ∧ A ∧ ∃ a, pos = 8 * a ∧ R = bindE (numS l a lo hi) f) ∨ (er ≠ 0 ∧ R = (er, default))) :
    Calls Tryd.prog 34 #[.pointer (some ⟨br, 0, none⟩), .int .i64 y, .int .i64 z] w (NumP w br bq ao cap l lo hi A f R) := by
  rcases hj with ⟨rfl, hA, a, rfl, hR⟩ | ⟨h0, hR⟩
  · refine (rnum_any br bq ao cap l (8 * a) lo hi y z w hy hz hlo hhi h).mono ?_
    rintro e w' ⟨rfl, h', hf⟩
    refine ⟨_, _, _, rfl, h', hf, ?_⟩
    rcases numQ_join l a lo hi f with ⟨h1, h2, h3, a', _, h4, h5⟩ | ⟨h1, h2, _, h3⟩
    · exact Or.inl ⟨h1, hA, h2, h3, a', h4, by rw [hR, h5]⟩
    · exact Or.inr ⟨h1, h2, by rw [hR, h3]⟩
  · refine (rnum_stay br bq ao cap l pos er y z w h h0).mono ?_
    rintro e w' ⟨rfl, rfl⟩
    exact ⟨0, er, pos, rfl, h, Fr.refl _ _, Or.inr ⟨h0, rfl, hR⟩⟩

/-- The kind's byte. -/
def KindP (w : World) (br bq : Nat) (ao : Option Addr) (cap : Nat) (l : List Nat) (f : Nat × Nat → Res) (R : Res) (e : Ending) (w' : World) : Prop :=
  ∃ x er' pos', e = .returned (.int .i64 ((x : Nat) : Int)) ∧ x < 256 ∧ RD w' br bq ao cap l pos' er' ∧ Fr (fun k => k = br ∨ k = bq) w w' ∧ ((er' = 0 ∧ ∃ a', pos' = 8 * a' ∧ (1 ≤ x ∧ x ≤ 7 → R = f (x, a')) ∧ (¬ (1 ≤ x ∧ x ≤ 7) → R = (161, default))) ∨ (er' ≠ 0 ∧ x = 0 ∧ R = (er', default)))
theorem rkind_j (br bq : Nat) (ao : Option Addr) (cap : Nat) (l : List Nat) (pos er : Nat) (w : World) (f : Nat × Nat → Res) (R : Res) (hb : ∀ x ∈ l, x < 256) (h : RD w br bq ao cap l pos er)
    (hj : (er = 0 ∧ ∃ a, pos = 8 * a ∧ R = bindE (kindS l a) f) ∨ (er ≠ 0 ∧ R = (er, default))) :
    Calls Tryd.prog 35 #[.pointer (some ⟨br, 0, none⟩), .int .i64 8] w (KindP w br bq ao cap l f R) := by
  rcases hj with ⟨rfl, a, rfl, hR⟩ | ⟨h0, hR⟩
  · by_cases ha : a < l.length
    · refine (rbits_ok br bq ao cap l (8 * a) 8 8 w rfl h (by decide) (by omega)).mono ?_
      rintro e w' ⟨rfl, h', hf⟩
      have hx := num_at l a hb ha
      refine ⟨_, 0, _, rfl, ?_, h', hf, Or.inl ⟨rfl, a + 1, by omega, ?_, ?_⟩⟩
      · rw [hx, List.getElem?_eq_getElem ha]; exact hb _ (List.getElem_mem ha)
      · rw [hx]; intro hk; rw [hR]; unfold kindS; rw [if_neg (by omega), if_pos hk]; rfl
      · rw [hx]; intro hk; rw [hR]; unfold kindS; rw [if_neg (by omega), if_neg hk]; rfl
    · refine (rbits_end br bq ao cap l (8 * a) 8 8 w rfl h (by decide) (by omega)).mono ?_
      rintro e w' ⟨rfl, h', hf⟩
      refine ⟨0, 163, _, rfl, by decide, h', hf, Or.inr ⟨by decide, rfl, ?_⟩⟩
      rw [hR]; unfold kindS; rw [if_pos (by omega)]; rfl
  · refine (rbits_stay br bq ao cap l pos er 8 w h h0).mono ?_
    rintro e w' ⟨rfl, rfl⟩
    exact ⟨0, er, pos, rfl, by decide, h, Fr.refl _ _, Or.inr ⟨h0, rfl, hR⟩⟩

/-- 'paged', 'refers' of any kind. -/
theorem paged_all (K : Nat) (w : World) : Calls Tryd.prog 29 #[.int .i64 (K : Int)] w fun e w' => ∃ lo hi : Nat, e = .returned (.tuple #[.int .i64 (lo : Int), .int .i64 (hi : Int)]) ∧ lo ≤ 1 ∧ hi ≤ 64 ∧ (1 ≤ K ∧ K ≤ 7 → lo = rLo K ∧ hi = rHi K) ∧ w' = w := by
  by_cases h : 1 ≤ K ∧ K ≤ 7
  · refine (paged_any K w h.1 h.2).mono ?_
    rintro e w' ⟨rfl, rfl⟩
    refine ⟨_, _, rfl, ?_, ?_, fun _ => ⟨rfl, rfl⟩, rfl⟩
    · unfold rLo; split <;> omega
    · unfold rHi; split <;> omega
  · have d1 : ((K : Int) == 2) = false := by rw [beq_eq_false_iff_ne]; omega
    have d2 : ((K : Int) == 7) = false := by rw [beq_eq_false_iff_ne]; omega
    have e1 : ((2 : Int) == (K : Int)) = false := by rw [beq_eq_false_iff_ne]; omega
    have e2 : ((7 : Int) == (K : Int)) = false := by rw [beq_eq_false_iff_ne]; omega
    have n1 : ¬ K = 2 := by omega
    have n2 : ¬ K = 7 := by omega
    have HN : Hid (¬ (1 ≤ K ∧ K ≤ 7)) := h
    clear h
    go_enter Tryd.func29, Tryd.ntmps29
    go_wp2_with fail
    go_ret2
    exact ⟨1, 64, rfl, by decide, by decide, fun h => absurd h HN.out, rfl⟩
theorem refers_all (K : Nat) (w : World) : Calls Tryd.prog 30 #[.int .i64 (K : Int)] w fun e w' => ∃ b, e = .returned (.bool b) ∧ (1 ≤ K ∧ K ≤ 7 → b = rRef K) ∧ w' = w := by
  by_cases h : 1 ≤ K ∧ K ≤ 7
  · refine (refers_any K w h.1 h.2).mono ?_
    rintro e w' ⟨rfl, rfl⟩
    exact ⟨_, rfl, fun _ => rfl, rfl⟩
  · have d1 : ((K : Int) == 2) = false := by rw [beq_eq_false_iff_ne]; omega
    have d2 : ((K : Int) == 3) = false := by rw [beq_eq_false_iff_ne]; omega
    have n1 : ¬ K = 2 := by omega
    have n2 : ¬ K = 3 := by omega
    have HN : Hid (¬ (1 ≤ K ∧ K ≤ 7)) := h
    clear h
    go_enter Tryd.func30, Tryd.ntmps30
    go_wp2_with fail
    go_ret
    exact ⟨false, rfl, fun h => absurd h HN.out, rfl⟩

/-- Bits of a part are bits of the whole. -/
theorem nextBits_pt (l : List Nat) (a m p k : Nat) (h : p + k ≤ 8 * m) (hl : a + m ≤ l.length) : nextBits (pt l a m) p k = nextBits l (8 * a + p) k := by
  have e : l = l.take a ++ (pt l a m ++ l.drop (a + m)) := by
    unfold pt
    rw [← List.drop_drop, List.take_append_drop, List.take_append_drop]
  have l1 : (flat (l.take a)).length = 8 * a := by rw [flat_length, List.length_take]; omega
  have l2 : (flat (pt l a m)).length = 8 * m := by rw [flat_length, length_pt]; omega
  unfold nextBits
  rw [unpack_flat, unpack_flat]
  conv => rhs; rw [e]
  rw [flat_append, flat_append, ← l1, ← List.drop_drop, List.drop_left' rfl, List.drop_append_of_le_length (by omega), List.take_append_of_le_length (by rw [List.length_drop]; omega)]
theorem flg_pt (l : List Nat) (a m j : Nat) (h : j < 8 * m) (hl : a + m ≤ l.length) : flg (pt l a m) j = decide ((num (nextBits l (8 * a + j) 1) : Int) = 1) := by
  unfold flg; rw [nextBits_pt l a m j 1 (by omega) hl]
theorem rpad_pt (l : List Nat) (a c : Nat) (hl : a + (c / 8 + 1) ≤ l.length) : (rpad (pt l a (c / 8 + 1)) (c + 1)).2.1 = (rpad l (8 * a + c + 1)).2.1 ∧ (rpad l (8 * a + c + 1)).2.2 = 8 * (a + (c / 8 + 1)) := by
  unfold rpad
  have e : (8 - (8 * a + c + 1) % 8) % 8 = (8 - (c + 1) % 8) % 8 := by omega
  refine ⟨?_, by show 8 * a + c + 1 + (8 - (8 * a + c + 1) % 8) % 8 = _; omega⟩
  show (if _ then _ else _) = if _ then _ else _
  rw [e, nextBits_pt l a _ (c + 1) _ (by omega) hl, Nat.add_assoc]
end Go.Proofs.YtamonbkhpbdojaaDoor

namespace Go.Proofs.YtamonbkhpbdojaaDoor
set_option maxRecDepth 100000
open Go.RowKit

def tl7 (l : List Nat) (N K P : Nat) (Rs : List Nat) (Ks : List Bool) (st : Bool) (a : Nat) : Res := bindE (numS l a 0 (rData K)) fun x7 => (0, ⟨N, K, P, Rs, Ks, st⟩, x7.1, x7.2)
def tl6 (l : List Nat) (N K P : Nat) (Rs : List Nat) (c a : Nat) : Res := bindE (flgS l a c) fun x6 => bindE (stayS (rStay K) x6.2.1) fun _ => tl7 l N K P Rs x6.1 x6.2.1 x6.2.2
def tl5 (l : List Nat) (N K P c a : Nat) : Res := bindE (risS l (N - 1) c a 0) fun x5 => tl6 l N K P x5.1 c x5.2
def tl4 (l : List Nat) (N K P a : Nat) : Res := bindE (numS l a 0 (mostN (rRef K) N)) fun x4 => tl5 l N K P x4.1 x4.2
def tl3 (l : List Nat) (N K a : Nat) : Res := bindE (numS l a (rLo K) (rHi K)) fun x3 => tl4 l N K x3.1 x3.2
def tl2 (l : List Nat) (N a : Nat) : Res := bindE (kindS l a) fun x2 => tl3 l N x2.1 x2.2
theorem segS_tl (l : List Nat) (a : Nat) : segS l a = bindE (numS l a 0 32767) fun x1 => tl2 l x1.1 x1.2 := rfl

/-- While the document's 'Decode' runs: its result's block, the reader, the segment's block. -/
structure QS (w0 w : World) (z : Nat) (ao : Option Addr) (cap : Nat) (l : List Nat) (pos er : Nat) (N K P : Nat) (vr vk : Value) (st : Bool) (Rs : List Nat) (Ks : List Bool) : Prop where
  zz : z = w0.heap.size
  b0 : w.heap[z]? = some (.cells zeroX 27 (0, 0))
  rd : RD w (z + 2) (z + 1) ao cap l pos er
  bs : w.heap[z + 3]? = some (.cells #[.int .i64 (N : Int), .int .i64 (K : Int), .int .i64 (P : Int), vr, vk, .bool st, .slice none 0 0] 27 (0, 0))
  rr : w.ownsRow z 3 1 vr Rs.length (intCells Rs)
  rk : w.ownsRow z 4 1 vk Ks.length (boolCells Ks)
  old : l ≠ [] → ∀ b off, ao = some ⟨b, off, none⟩ → b < z
  fr : Fr (fun _ => False) w0 w

theorem rows_apart {w : World} {b b' e e' n n' : Nat} {v v' : Value} {xs ys : List Value} (h1 : w.ownsRow b e 1 v n xs) (h2 : w.ownsRow b' e' 1 v' n' ys) (he : e ≠ e') {k : Nat} (hk : v.ownBlock = some k) (hk' : v'.ownBlock = some k) : False := by
  rcases h2.2 with ⟨rfl, _⟩ | ⟨g, cap, cur, rfl, _, hg, _⟩
  · simp [Value.ownBlock] at hk'
  · simp [Value.ownBlock] at hk'
    subst hk'
    exact row_off h1 hg he hk

section
variable {w0 w w' : World} {z : Nat} {ao : Option Addr} {cap : Nat} {l : List Nat} {pos er N K P : Nat} {vr vk : Value} {st : Bool} {Rs : List Nat} {Ks : List Bool}
theorem QS.offr (h : QS w0 w z ao cap l pos er N K P vr vk st Rs Ks) : ∀ k, vr.ownBlock = some k → k ≠ z + 1 ∧ k ≠ z + 2 ∧ k ≠ z + 3 := fun k e =>
  ⟨fun e2 => row_off h.rr h.rd.q.blk (by decide) (by rw [e, e2]), fun e2 => row_off h.rr h.rd.blk (by decide) (by rw [e, e2]), fun e2 => row_off h.rr h.bs (by decide) (by rw [e, e2])⟩
theorem QS.offk (h : QS w0 w z ao cap l pos er N K P vr vk st Rs Ks) : ∀ k, vk.ownBlock = some k → k ≠ z + 1 ∧ k ≠ z + 2 ∧ k ≠ z + 3 := fun k e =>
  ⟨fun e2 => row_off h.rk h.rd.q.blk (by decide) (by rw [e, e2]), fun e2 => row_off h.rk h.rd.blk (by decide) (by rw [e, e2]), fun e2 => row_off h.rk h.bs (by decide) (by rw [e, e2])⟩
theorem QS.call {pos' er' : Nat} (h : QS w0 w z ao cap l pos er N K P vr vk st Rs Ks) (hr : RD w' (z + 2) (z + 1) ao cap l pos' er') (f : Fr (fun k => k = z + 2 ∨ k = z + 1) w w') : QS w0 w' z ao cap l pos' er' N K P vr vk st Rs Ks :=
  ⟨h.zz, by rw [f.block _ (lt_of_block h.b0) (by omega)]; exact h.b0, hr, by rw [f.block _ (lt_of_block h.bs) (by omega)]; exact h.bs,
   row_kept h.rr f (fun k e e2 => by have := h.offr k e; omega), row_kept h.rk f (fun k e e2 => by have := h.offk k e; omega), h.old,
   h.fr.trans f (fun i hi e => by have := h.zz; omega)⟩
theorem QS.keptF (h : QS w0 w z ao cap l pos er N K P vr vk st Rs Ks) (f : Fr (fun _ => False) w w') : QS w0 w' z ao cap l pos er N K P vr vk st Rs Ks :=
  h.call ⟨by rw [f.block _ (lt_of_block h.rd.blk) (fun h => h)]; exact h.rd.blk, h.rd.q.kept f (fun h => h) (fun _ _ _ _ h => h)⟩ (f.mono (fun _ _ h => h.elim))
theorem QS.put0 (h : QS w0 w z ao cap l pos er N K P vr vk st Rs Ks) (j : Nat) (u : Value) :
    let w' := w.setCell ⟨z + 3, j, none⟩ u
    w'.heap[z]? = some (.cells zeroX 27 (0, 0)) ∧ RD w' (z + 2) (z + 1) ao cap l pos er ∧ w'.ownsRow z 3 1 vr Rs.length (intCells Rs) ∧ w'.ownsRow z 4 1 vk Ks.length (boolCells Ks) ∧ Fr (fun _ => False) w0 w' := by
  have f : Fr (fun k => k = z + 3) w (w.setCell ⟨z + 3, j, none⟩ u) := Fr.one _ _ _ _
  exact ⟨by rw [f.block _ (lt_of_block h.b0) (by omega)]; exact h.b0, ⟨by rw [f.block _ (lt_of_block h.rd.blk) (by omega)]; exact h.rd.blk, h.rd.q.kept f (by omega) (fun hl b off e e2 => by have := h.old hl b off e; omega)⟩,
    row_kept h.rr f (fun k e e2 => by have := h.offr k e; omega), row_kept h.rk f (fun k e e2 => by have := h.offk k e; omega), h.fr.trans f (fun i hi e => by have := h.zz; omega)⟩
theorem QS.putN (h : QS w0 w z ao cap l pos er N K P vr vk st Rs Ks) (x : Nat) : QS w0 (w.setCell ⟨z + 3, 0, none⟩ (.int .i64 (x : Int))) z ao cap l pos er x K P vr vk st Rs Ks := by
  obtain ⟨h1, h2, h3, h4, h5⟩ := h.put0 0 (.int .i64 (x : Int))
  exact ⟨h.zz, h1, h2, by simp [World.setCell, Array.getElem?_modify, h.bs], h3, h4, h.old, h5⟩
theorem QS.putK (h : QS w0 w z ao cap l pos er N K P vr vk st Rs Ks) (x : Nat) : QS w0 (w.setCell ⟨z + 3, 1, none⟩ (.int .i64 (x : Int))) z ao cap l pos er N x P vr vk st Rs Ks := by
  obtain ⟨h1, h2, h3, h4, h5⟩ := h.put0 1 (.int .i64 (x : Int))
  exact ⟨h.zz, h1, h2, by simp [World.setCell, Array.getElem?_modify, h.bs], h3, h4, h.old, h5⟩
theorem QS.putP (h : QS w0 w z ao cap l pos er N K P vr vk st Rs Ks) (x : Nat) : QS w0 (w.setCell ⟨z + 3, 2, none⟩ (.int .i64 (x : Int))) z ao cap l pos er N K x vr vk st Rs Ks := by
  obtain ⟨h1, h2, h3, h4, h5⟩ := h.put0 2 (.int .i64 (x : Int))
  exact ⟨h.zz, h1, h2, by simp [World.setCell, Array.getElem?_modify, h.bs], h3, h4, h.old, h5⟩
theorem QS.putS (h : QS w0 w z ao cap l pos er N K P vr vk st Rs Ks) (x : Bool) : QS w0 (w.setCell ⟨z + 3, 5, none⟩ (.bool x)) z ao cap l pos er N K P vr vk x Rs Ks := by
  obtain ⟨h1, h2, h3, h4, h5⟩ := h.put0 5 (.bool x)
  exact ⟨h.zz, h1, h2, by simp [World.setCell, Array.getElem?_modify, h.bs], h3, h4, h.old, h5⟩
/-- A number is appended to the references, a flag to the flags. -/
theorem QS.appR {v' : Value} {L : List Nat} (h : QS w0 w z ao cap l pos er N K P vr vk st Rs Ks) (g : w.grownBy w' vr.ownBlock) (o : w'.ownsRow z 3 1 v' (Rs.length + L.length) (intCells Rs ++ intCells L)) : QS w0 (w'.setCell ⟨z + 3, 3, none⟩ v') z ao cap l pos er N K P v' vk st (Rs ++ L) Ks := by
  have f : Fr (fun k => vr.ownBlock = some k) w w' := (Fr.refl _ w).grown g (fun _ e _ => e)
  have f2 : Fr (fun k => k = z + 3) w' (w'.setCell ⟨z + 3, 3, none⟩ v') := Fr.one _ _ _ _
  have ho := h.offr
  have b0 : w'.heap[z]? = some (.cells zeroX 27 (0, 0)) := by rw [f.block _ (lt_of_block h.b0) (fun e => row_off h.rr h.b0 (by decide) e)]; exact h.b0
  have bs : w'.heap[z + 3]? = some (.cells #[.int .i64 (N : Int), .int .i64 (K : Int), .int .i64 (P : Int), vr, vk, .bool st, .slice none 0 0] 27 (0, 0)) := by rw [f.block _ (lt_of_block h.bs) (fun e => (ho _ e).2.2 rfl)]; exact h.bs
  have rb : w'.heap[z + 2]? = some (.cells #[.pointer (some ⟨z + 1, 0, none⟩), .int .i64 (er : Int)] 73 (0, 0)) := by rw [f.block _ (lt_of_block h.rd.blk) (fun e => (ho _ e).2.1 rfl)]; exact h.rd.blk
  have rq : QAt w' (z + 1) ao cap l pos := h.rd.q.kept f (fun e => (ho _ e).1 rfl) (fun hl b off e e2 => by have := h.old hl b off e; have := (h.rr.lt b e2).1; omega)
  have ho' : ∀ k, v'.ownBlock = some k → k ≠ z + 3 := fun k e e2 => row_off o bs (by decide) (by rw [e, e2])
  have hvo : ∀ k, vk.ownBlock = some k → ¬ vr.ownBlock = some k := fun k e e2 => rows_apart h.rr h.rk (by decide) e2 e
  refine ⟨h.zz, by rw [f2.block _ (lt_of_block b0) (by omega)]; exact b0, ⟨by rw [f2.block _ (lt_of_block rb) (by omega)]; exact rb, rq.kept f2 (by omega) (fun hl b off e e2 => by have := h.old hl b off e; omega)⟩, by simp [World.setCell, Array.getElem?_modify, bs], ?_, row_kept (row_kept h.rk f hvo) f2 (fun k e e2 => (h.offk k e).2.2 e2), h.old, (h.fr.trans f (fun i hi e => by have := (h.rr.lt i e).1; have := h.zz; omega)).trans f2 (fun i hi e => by have := h.zz; omega)⟩
  rw [List.length_append, show intCells (Rs ++ L) = intCells Rs ++ intCells L by simp [intCells]]
  exact row_kept o f2 (fun k e e2 => ho' k e e2)
theorem QS.appK {v' : Value} {L : List Bool} (h : QS w0 w z ao cap l pos er N K P vr vk st Rs Ks) (g : w.grownBy w' vk.ownBlock) (o : w'.ownsRow z 4 1 v' (Ks.length + L.length) (boolCells Ks ++ boolCells L)) : QS w0 (w'.setCell ⟨z + 3, 4, none⟩ v') z ao cap l pos er N K P vr v' st Rs (Ks ++ L) := by
  have f : Fr (fun k => vk.ownBlock = some k) w w' := (Fr.refl _ w).grown g (fun _ e _ => e)
  have f2 : Fr (fun k => k = z + 3) w' (w'.setCell ⟨z + 3, 4, none⟩ v') := Fr.one _ _ _ _
  have ho := h.offk
  have b0 : w'.heap[z]? = some (.cells zeroX 27 (0, 0)) := by rw [f.block _ (lt_of_block h.b0) (fun e => row_off h.rk h.b0 (by decide) e)]; exact h.b0
  have bs : w'.heap[z + 3]? = some (.cells #[.int .i64 (N : Int), .int .i64 (K : Int), .int .i64 (P : Int), vr, vk, .bool st, .slice none 0 0] 27 (0, 0)) := by rw [f.block _ (lt_of_block h.bs) (fun e => (ho _ e).2.2 rfl)]; exact h.bs
  have rb : w'.heap[z + 2]? = some (.cells #[.pointer (some ⟨z + 1, 0, none⟩), .int .i64 (er : Int)] 73 (0, 0)) := by rw [f.block _ (lt_of_block h.rd.blk) (fun e => (ho _ e).2.1 rfl)]; exact h.rd.blk
  have rq : QAt w' (z + 1) ao cap l pos := h.rd.q.kept f (fun e => (ho _ e).1 rfl) (fun hl b off e e2 => by have := h.old hl b off e; have := (h.rk.lt b e2).1; omega)
  have ho' : ∀ k, v'.ownBlock = some k → k ≠ z + 3 := fun k e e2 => row_off o bs (by decide) (by rw [e, e2])
  have hvo : ∀ k, vr.ownBlock = some k → ¬ vk.ownBlock = some k := fun k e e2 => rows_apart h.rk h.rr (by decide) e2 e
  refine ⟨h.zz, by rw [f2.block _ (lt_of_block b0) (by omega)]; exact b0, ⟨by rw [f2.block _ (lt_of_block rb) (by omega)]; exact rb, rq.kept f2 (by omega) (fun hl b off e e2 => by have := h.old hl b off e; omega)⟩, by simp [World.setCell, Array.getElem?_modify, bs], row_kept (row_kept h.rr f hvo) f2 (fun k e e2 => (h.offr k e).2.2 e2), ?_, h.old, (h.fr.trans f (fun i hi e => by have := (h.rk.lt i e).1; have := h.zz; omega)).trans f2 (fun i hi e => by have := h.zz; omega)⟩
  rw [List.length_append, show boolCells (Ks ++ L) = boolCells Ks ++ boolCells L by simp [boolCells]]
  exact row_kept o f2 (fun k e e2 => ho' k e e2)
theorem QS.cells (h : QS w0 w z ao cap l pos er N K P vr vk st Rs Ks) : w.cell? ⟨z + 3, 0, none⟩ = some (.int .i64 (N : Int)) ∧ w.cell? ⟨z + 3, 1, none⟩ = some (.int .i64 (K : Int)) ∧ w.cell? ⟨z + 3, 2, none⟩ = some (.int .i64 (P : Int)) ∧ w.cell? ⟨z + 3, 3, none⟩ = some vr ∧ w.cell? ⟨z + 3, 4, none⟩ = some vk ∧ w.cell? ⟨z + 3, 5, none⟩ = some (.bool st) ∧ w.cell? ⟨z + 3, 6, none⟩ = some (.slice none 0 0) := by
  refine ⟨?_, ?_, ?_, ?_, ?_, ?_, ?_⟩ <;> simp [World.cell?, h.bs]
theorem QS.frozen (h : QS w0 w z ao cap l pos er N K P vr vk st Rs Ks) (j : Nat) : w.frozen? ⟨z + 3, j, none⟩ = false := by simp [World.frozen?, h.bs]
theorem QS.reader (h : QS w0 w z ao cap l pos er N K P vr vk st Rs Ks) : w.cell? ⟨z + 2, 0, none⟩ = some (.pointer (some ⟨z + 1, 0, none⟩)) ∧ w.cell? ⟨z + 2, 1, none⟩ = some (.int .i64 (er : Int)) ∧ w.cell? ⟨z + 1, 1, none⟩ = some (.int .i64 (pos : Int)) := by
  refine ⟨?_, ?_, ?_⟩
  · simp [World.cell?, h.rd.blk]
  · simp [World.cell?, h.rd.blk]
  · simp [World.cell?, h.rd.q.blk]
end
theorem allocs4 (w : World) (o1 o2 o3 o4 : Obj) : ((((w.alloc o1).alloc o2).alloc o3).alloc o4).heap[w.heap.size]? = some o1 ∧ ((((w.alloc o1).alloc o2).alloc o3).alloc o4).heap[w.heap.size + 1]? = some o2 ∧ ((((w.alloc o1).alloc o2).alloc o3).alloc o4).heap[w.heap.size + 2]? = some o3 ∧ ((((w.alloc o1).alloc o2).alloc o3).alloc o4).heap[w.heap.size + 3]? = some o4 := by
  have s1 : (w.alloc o1).heap.size = w.heap.size + 1 := World.size_alloc _ _
  have s2 : ((w.alloc o1).alloc o2).heap.size = w.heap.size + 2 := by rw [World.size_alloc, s1]
  have s3 : (((w.alloc o1).alloc o2).alloc o3).heap.size = w.heap.size + 3 := by rw [World.size_alloc, s2]
  have k : ∀ (u : World) (o : Obj) (j : Nat), j < u.heap.size → (u.alloc o).heap[j]? = u.heap[j]? := fun u o j h => ((Fr.refl (fun _ => False) u).alloc o).block j h (fun h => h)
  refine ⟨?_, ?_, ?_, ?_⟩
  · rw [k _ _ _ (by omega), k _ _ _ (by omega), k _ _ _ (by omega)]; exact heap_alloc_new w o1
  · rw [k _ _ _ (by omega), k _ _ _ (by omega), ← s1]; exact heap_alloc_new _ o2
  · rw [k _ _ _ (by omega), ← s2]; exact heap_alloc_new _ o3
  · rw [← s3]; exact heap_alloc_new _ o4
theorem QS.start {w w1 : World} {z : Nat} {ao : Option Addr} {cap : Nat} {l : List Nat} (a : Nat) (h : DB w ao cap l) (hz : z = w.heap.size) (ha : a ≤ l.length) (hw : w1 = ((((w.alloc (.cells #[.int .i64 0, .int .i64 0, .int .i64 0, .slice none 0 0, .slice none 0 0, .bool false, .slice none 0 0] 27)).alloc (.cells #[.slice ao l.length cap, .int .i64 (8 * (a : Int))] 71)).alloc (.cells #[.pointer (some ⟨w.heap.size + 1, 0, none⟩), .int .i64 0] 73)).alloc (.cells #[.int .i64 0, .int .i64 0, .int .i64 0, .slice none 0 0, .slice none 0 0, .bool false, .slice none 0 0] 27))) :
    QS w w1 z ao cap l (8 * a) 0 0 0 0 (.slice none 0 0) (.slice none 0 0) false [] [] := by
  have f : Fr (fun _ => False) w w1 := by rw [hw]; exact ((((Fr.refl _ w).alloc _).alloc _).alloc _).alloc _
  have hd := h.kept f
  obtain ⟨hb0, hb1, hb2, hb3⟩ := allocs4 w (.cells #[.int .i64 0, .int .i64 0, .int .i64 0, .slice none 0 0, .slice none 0 0, .bool false, .slice none 0 0] 27) (.cells #[.slice ao l.length cap, .int .i64 (8 * (a : Int))] 71) (.cells #[.pointer (some ⟨w.heap.size + 1, 0, none⟩), .int .i64 0] 73) (.cells #[.int .i64 0, .int .i64 0, .int .i64 0, .slice none 0 0, .slice none 0 0, .bool false, .slice none 0 0] 27)
  rw [← hw, ← hz] at hb0 hb1 hb2 hb3
  have e : ((8 * a : Nat) : Int) = 8 * (a : Int) := by omega
  refine ⟨hz, hb0, ⟨?_, ⟨?_, hd.seen, by omega, by have := h.lim; omega, h.byt⟩⟩, hb3, own_nil _ _ _, own_nil _ _ _, fun hl b off e => ?_, f⟩
  · rw [hb2]; rfl
  · rw [hb1, e]
  · subst e
    obtain ⟨b', off', e', hc⟩ := h.seen hl
    cases e'
    rw [hz]
    have h0 := hc 0 (List.length_pos_iff.2 hl)
    rcases Nat.lt_or_ge b w.heap.size with h1 | h1
    · exact h1
    · rw [World.cell?, Array.getElem?_eq_none h1] at h0; simp at h0
end Go.Proofs.YtamonbkhpbdojaaDoor

namespace Go.Proofs.YtamonbkhpbdojaaDoor
set_option maxRecDepth 100000
open Go.RowKit

section
variable {w0 w w' : World} {z : Nat} {ao : Option Addr} {cap : Nat} {l : List Nat} {pos er N K P : Nat} {vr vk : Value} {st : Bool} {Rs : List Nat} {Ks : List Bool}
theorem QS.grownR (h : QS w0 w z ao cap l pos er N K P vr vk st Rs Ks) (g : w.grownBy w' vr.ownBlock) : w'.cell? ⟨z + 3, 3, none⟩ = some vr ∧ ∀ j, w'.frozen? ⟨z + 3, j, none⟩ = false := by
  have f : Fr (fun k => vr.ownBlock = some k) w w' := (Fr.refl _ w).grown g (fun _ e _ => e)
  have bs := f.block _ (lt_of_block h.bs) (fun e => (h.offr _ e).2.2 rfl)
  rw [h.bs] at bs
  exact ⟨by simp [World.cell?, bs], fun j => by simp [World.frozen?, bs]⟩
theorem QS.grownK (h : QS w0 w z ao cap l pos er N K P vr vk st Rs Ks) (g : w.grownBy w' vk.ownBlock) : w'.cell? ⟨z + 3, 4, none⟩ = some vk ∧ ∀ j, w'.frozen? ⟨z + 3, j, none⟩ = false := by
  have f : Fr (fun k => vk.ownBlock = some k) w w' := (Fr.refl _ w).grown g (fun _ e _ => e)
  have bs := f.block _ (lt_of_block h.bs) (fun e => (h.offk _ e).2.2 rfl)
  rw [h.bs] at bs
  exact ⟨by simp [World.cell?, bs], fun j => by simp [World.frozen?, bs]⟩
end
theorem drew_heap (w : World) : w.drew.heap = w.heap := rfl
theorem blk7d {w : World} {o : Nat} {z0 z1 z2 z3 z4 z5 z6 : Value} {t : TypeId} (h : w.heap[o]? = some (.cells #[z0, z1, z2, z3, z4, z5, z6] t (0, 0))) (x0 x1 x2 x3 x4 x5 x6 : Value) : (((((((w.setCell ⟨o, 0, none⟩ x0).setCell ⟨o, 1, none⟩ x1).setCell ⟨o, 2, none⟩ x2).setCell ⟨o, 3, none⟩ x3).setCell ⟨o, 4, none⟩ x4).setCell ⟨o, 5, none⟩ x5).setCell ⟨o, 6, none⟩ x6).drew.heap[o]? = some (.cells #[x0, x1, x2, x3, x4, x5, x6] t (0, 0)) := by
  rw [drew_heap]; exact blk7 h x0 x1 x2 x3 x4 x5 x6
theorem fr7d (w : World) (o : Nat) (x0 x1 x2 x3 x4 x5 x6 : Value) : Fr (fun k => k = o) w (((((((w.setCell ⟨o, 0, none⟩ x0).setCell ⟨o, 1, none⟩ x1).setCell ⟨o, 2, none⟩ x2).setCell ⟨o, 3, none⟩ x3).setCell ⟨o, 4, none⟩ x4).setCell ⟨o, 5, none⟩ x5).setCell ⟨o, 6, none⟩ x6).drew := (fr7 w o x0 x1 x2 x3 x4 x5 x6).drew
theorem cell_new1 (w : World) (u : Value) (t : TypeId) : 0 < 1 → ∃ ad, some (⟨w.heap.size, 0, none⟩ : Addr) = some ad ∧ ∀ j v, [u][j]? = some v → (w.alloc (.cells #[u] t)).cell? (ad.add j) = some v := by
  intro _
  refine ⟨_, rfl, fun j v hv => ?_⟩
  rcases j with _ | j
  · simp at hv
    subst hv
    have h2 : (⟨w.heap.size, 0, none⟩ : Addr).add 0 = ⟨w.heap.size, 0, none⟩ := by unfold Addr.add; split <;> simp_all
    rw [h2]
    have hb := heap_alloc_new w (.cells #[u] t)
    unfold World.cell?
    rw [hb]
    rfl
  · simp at hv
theorem ris_step (l : List Nat) (last d a fr : Nat) (Rs : List Nat) (g : List Nat × Nat → Res) :
    bindE (appR Rs (risS l last (d + 1) a fr)) g = bindE (numS l a fr last) (fun y => bindE (appR (Rs ++ [y.1]) (risS l last d y.2 (y.1 + 1))) g) := by
  by_cases h : (numS l a fr last).1 = 0
  · obtain ⟨n, a', e⟩ : ∃ n a', numS l a fr last = (0, n, a') := ⟨_, _, Prod.ext h rfl⟩
    rw [risS_more e, appR_app, e, bindE_ok (f := fun y : Nat × Nat => bindE (appR (Rs ++ [y.1]) (risS l last d y.2 (y.1 + 1))) g) rfl]
  · rw [risS_no h, bindE_no (f := fun y : Nat × Nat => bindE (appR (Rs ++ [y.1]) (risS l last d y.2 (y.1 + 1))) g) h, bindE_no (by show (numS l a fr last).1 ≠ 0; exact h)]
    rfl
theorem ris_end (l : List Nat) (last a fr : Nat) (Rs : List Nat) (g : List Nat × Nat → Res) : bindE (appR Rs (risS l last 0 a fr)) g = g (Rs, a) := by
  rw [bindE_ok (by rfl)]; simp [risS, appR]

def flgW (l : List Nat) (a k : Nat) : List Bool := (List.range k).map fun j => decide ((num (nextBits l (8 * a + j) 1) : Int) = 1)
theorem flgW_succ (l : List Nat) (a k : Nat) : flgW l a (k + 1) = flgW l a k ++ [decide ((num (nextBits l (8 * a + k) 1) : Int) = 1)] := by simp [flgW, List.range_succ]
theorem flgW_pt (l : List Nat) (a c : Nat) (hl : a + (c / 8 + 1) ≤ l.length) : flgL (pt l a (c / 8 + 1)) c = flgW l a c := by
  unfold flgL flgW
  refine List.map_congr_left fun j hj => ?_
  have := List.mem_range.1 hj
  exact flg_pt l a _ j (by omega) hl
theorem flgS_in (l : List Nat) (a c : Nat) (h : 8 * a + c + 1 ≤ 8 * l.length) : flgS l a c = if (rpad l (8 * a + c + 1)).2.1 = 0 then (0, flgW l a c, decide ((num (nextBits l (8 * a + c) 1) : Int) = 1), a + (c / 8 + 1)) else (161, [], false, 0) := by
  have hl : a + (c / 8 + 1) ≤ l.length := by omega
  unfold flgS
  rw [if_neg (by omega), (rpad_pt l a c hl).1, flgW_pt l a c hl, flg_pt l a _ c (by omega) hl]
theorem flgS_out (l : List Nat) (a c k : Nat) (h : 8 * l.length < 8 * a + k + 1) (hk : k ≤ c) : flgS l a c = (163, [], false, 0) := by
  unfold flgS
  rw [if_pos (by omega)]

def FlagP (w : World) (br bq : Nat) (ao : Option Addr) (cap : Nat) (l : List Nat) (k c : Nat) (A : Nat → Prop) (f : List Bool × Bool × Nat → Res) (R : Res) (e : Ending) (w' : World) : Prop :=
  ∃ x er' pos', e = .returned (.int .i64 ((x : Nat) : Int)) ∧ RD w' br bq ao cap l pos' er' ∧ Fr (fun k => k = br ∨ k = bq) w w' ∧ ((er' = 0 ∧ ∃ a, pos' = 8 * a + k + 1 ∧ A a ∧ x = num (nextBits l (8 * a + k) 1) ∧ 8 * a + k + 1 ≤ 8 * l.length ∧ R = bindE (flgS l a c) f) ∨ (er' ≠ 0 ∧ R = (er', default)))
theorem rflag_j (br bq : Nat) (ao : Option Addr) (cap : Nat) (l : List Nat) (pos er k c : Nat) (w : World) (A : Nat → Prop) (f : List Bool × Bool × Nat → Res) (R : Res) (h : RD w br bq ao cap l pos er) (hk : k ≤ c)
    (hj : (er = 0 ∧ ∃ a, pos = 8 * a + k ∧ A a ∧ R = bindE (flgS l a c) f) ∨ (er ≠ 0 ∧ R = (er, default))) :
    Calls Tryd.prog 35 #[.pointer (some ⟨br, 0, none⟩), .int .i64 1] w (FlagP w br bq ao cap l k c A f R) := by
  rcases hj with ⟨rfl, a, rfl, hA, hR⟩ | ⟨h0, hR⟩
  · by_cases ha : 8 * a + k + 1 ≤ 8 * l.length
    · refine (rbits_ok br bq ao cap l (8 * a + k) 1 1 w rfl h (by decide) ha).mono ?_
      rintro e w' ⟨rfl, h', hf⟩
      exact ⟨_, 0, _, rfl, h', hf, Or.inl ⟨rfl, a, rfl, hA, rfl, ha, hR⟩⟩
    · refine (rbits_end br bq ao cap l (8 * a + k) 1 1 w rfl h (by decide) (by omega)).mono ?_
      rintro e w' ⟨rfl, h', hf⟩
      refine ⟨0, 163, _, rfl, h', hf, Or.inr ⟨by decide, ?_⟩⟩
      rw [hR, flgS_out l a c k (by omega) hk]; rfl
  · refine (rbits_stay br bq ao cap l pos er 1 w h h0).mono ?_
    rintro e w' ⟨rfl, rfl⟩
    exact ⟨0, er, pos, rfl, h, Fr.refl _ _, Or.inr ⟨h0, hR⟩⟩

/-- Behind the flags. -/
theorem flg_join {l : List Nat} {N K P : Nat} {Rs : List Nat} {a c : Nat} {R : Res} (h : 8 * a + c + 1 ≤ 8 * l.length) (hR : R = bindE (flgS l a c) fun x6 => bindE (stayS (rStay K) x6.2.1) fun _ => tl7 l N K P Rs x6.1 x6.2.1 x6.2.2) :
    R = if (rpad l (8 * a + c + 1)).2.1 = 0 then bindE (stayS (rStay K) (decide ((num (nextBits l (8 * a + c) 1) : Int) = 1))) (fun _ => tl7 l N K P Rs (flgW l a c) (decide ((num (nextBits l (8 * a + c) 1) : Int) = 1)) (a + (c / 8 + 1))) else (161, default) := by
  rw [hR, flgS_in l a c h]
  split
  · rw [bindE_ok rfl]
  · rw [bindE_no (by simp)]
theorem stay_no {K : Nat} {st : Bool} {g : Unit → Res} (h : st = true ∧ K ≠ 2) : bindE (stayS (rStay K) st) g = (161, default) := by
  have : stayS (rStay K) st = (161, ()) := by unfold stayS rStay; rw [h.1]; simp [h.2]
  rw [this]; rfl
theorem stay_ok {K : Nat} {st : Bool} {g : Unit → Res} (h : ¬ (st = true ∧ K ≠ 2)) : bindE (stayS (rStay K) st) g = g () := by
  have : stayS (rStay K) st = (0, ()) := by
    unfold stayS rStay
    by_cases h2 : K = 2
    · simp [h2]
    · have : st = false := by cases st <;> simp_all
      simp [this]
  rw [this]; rfl
theorem rpad_er (l : List Nat) (p : Nat) : (rpad l p).2.1 = 0 ∨ (rpad l p).2.1 = 15 := by
  unfold rpad
  show (if _ then 0 else 15) = 0 ∨ _
  split <;> simp
def dataM (K : Nat) : Nat := if K = 6 ∨ K = 7 then 0 else 67108864
theorem dataM_good {K : Nat} (h : 1 ≤ K ∧ K ≤ 7) : dataM K = rData K := by
  unfold dataM rData
  by_cases h6 : K = 6 ∨ K = 7
  · rw [if_pos h6, if_pos (by omega)]
  · rw [if_neg h6, if_neg (by omega)]
end Go.Proofs.YtamonbkhpbdojaaDoor

namespace Go.Proofs.YtamonbkhpbdojaaDoor
set_option maxRecDepth 100000
open Go.RowKit

set_option linter.unusedSimpArgs false in
set_option maxHeartbeats 4000000 in
theorem rdecode_any (ao : Option Addr) (cap : Nat) (l : List Nat) (x : Int) (w : World) (h : DB w ao cap l) :
    Calls Tryd.prog 17 #[.slice ao l.length cap, .int .i64 x] w (DecP w (decS l x)) := by
  obtain ⟨i0, hi, hz0, hz1, hz2⟩ := info_parts Tryd.info3
  obtain ⟨j0, hj, hj0, hj1, hj2⟩ := info_parts Tryd.info4
  have HD : Hid (DB w ao cap l) := h
  clear h
  obtain ⟨z, hz⟩ : ∃ z, z = w.heap.size := ⟨_, rfl⟩
  by_cases hx : 0 ≤ x ∧ x ≤ (l.length : Int)
  · obtain ⟨a, rfl⟩ : ∃ a : Nat, x = (a : Int) := ⟨x.toNat, by omega⟩
    have hal : a ≤ l.length := by omega
    have d1 : decide ((a : Int) < 0) = false := decide_eq_false (by omega)
    have d2 : decide ((l.length : Int) < (a : Int)) = false := decide_eq_false (by omega)
    have hw8 : IntKind.i64.wrap (8 * (a : Int)) = ((8 * a : Nat) : Int) := by have := HD.out.lim; rw [IntKind.wrap_i64]; omega
    obtain ⟨R, hR⟩ : ∃ R, R = decS l (a : Int) := ⟨_, rfl⟩
    have HR : Hid (R = bindE (numS l a 0 32767) fun x1 => tl2 l x1.1 x1.2) := by show _ = _; rw [hR]; unfold decS; rw [if_pos hx, Int.toNat_natCast]; exact segS_tl l a
    rw [← hR]
    clear hR hx
    go_enter Tryd.func17, Tryd.ntmps17
    go_upto_region 5 with (fail)
    obtain ⟨w1, hw1⟩ : ∃ w1, w1 = ((((w.alloc (.cells #[.int .i64 0, .int .i64 0, .int .i64 0, .slice none 0 0, .slice none 0 0, .bool false, .slice none 0 0] 27)).alloc (.cells #[.slice ao l.length cap, .int .i64 (8 * (a : Int))] 71)).alloc (.cells #[.pointer (some ⟨w.heap.size + 1, 0, none⟩), .int .i64 0] 73)).alloc (.cells #[.int .i64 0, .int .i64 0, .int .i64 0, .slice none 0 0, .slice none 0 0, .bool false, .slice none 0 0] 27)) := ⟨_, rfl⟩
    have HS1 : Hid (QS w w1 z ao cap l (8 * a) 0 0 0 0 (.slice none 0 0) (.slice none 0 0) false [] []) := QS.start a HD.out hz hal hw1
    rw [← hw1]
    clear hw1
    rw [← hz]
    simp only [show z + 1 + 1 = z + 2 from rfl, show z + 2 + 1 = z + 3 from rfl]
    have HZ : Hid (z = w.heap.size) := hz
    clear hw8 d1 d2 hal hz
    have hq0 : (0 : Int) = ((0 : Nat) : Int) := rfl
    have hq1 : (32767 : Int) = ((32767 : Nat) : Int) := rfl
    have hq2 : (0 : Nat) ≤ 9223372036854775807 := by omega
    have hq3 : (32767 : Nat) ≤ 9223372036854775807 := by omega
    have HN1 : Hid (Calls Tryd.prog 34 #[.pointer (some ⟨z + 2, 0, none⟩), .int .i64 0, .int .i64 32767] w1 (NumP w1 (z + 2) (z + 1) ao cap l 0 32767 True (fun x1 => tl2 l x1.1 x1.2) R)) := rnum_j (z + 2) (z + 1) ao cap l (8 * a) 0 0 32767 0 32767 w1 True (fun x1 => tl2 l x1.1 x1.2) R hq0 hq1 hq2 hq3 HS1.out.rd (Or.inl ⟨rfl, trivial, a, rfl, HR.out⟩)
    clear hq0 hq1 hq2 hq3
    go_wp2_with fail
    refine HN1.out.mono ?_
    rintro e w2 ⟨N, er2, p2, rfl, hr2, hf2, hj2⟩
    have HJ2 : Hid ((er2 = 0 ∧ True ∧ 0 ≤ N ∧ N ≤ 32767 ∧ ∃ a', p2 = 8 * a' ∧ R = tl2 l N a') ∨ (er2 ≠ 0 ∧ N = 0 ∧ R = (er2, default))) := hj2
    have HS2 := (show Hid _ from HS1.out.call hr2 hf2)
    clear hr2 hf2 hj2 HS1 HR
    obtain ⟨c0, c1, c2, c3, c4, c5, c6⟩ := HS2.out.cells
    have cf := HS2.out.frozen
    have HK2 : Hid (Calls Tryd.prog 35 #[.pointer (some ⟨z + 2, 0, none⟩), .int .i64 8] (w2.setCell ⟨z + 3, 0, none⟩ (.int .i64 (N : Int))) (KindP (w2.setCell ⟨z + 3, 0, none⟩ (.int .i64 (N : Int))) (z + 2) (z + 1) ao cap l (fun x2 => tl3 l N x2.1 x2.2) R)) := by
      refine rkind_j (z + 2) (z + 1) ao cap l p2 er2 _ _ R HD.out.byt (HS2.out.putN N).rd ?_
      rcases HJ2.out with ⟨h0, _, _, _, a', h1, h2⟩ | ⟨h0, _, h1⟩
      · exact Or.inl ⟨h0, a', h1, h2⟩
      · exact Or.inr ⟨h0, h1⟩
    have HN32 : Hid (N ≤ 32767) := by rcases HJ2.out with ⟨_, _, _, h, _⟩ | ⟨_, h, _⟩ <;> (show _ ≤ _; omega)
    have HS3 := (show Hid _ from HS2.out.putN N)
    go_wp2_with fail
    clear HJ2 HS2 c0 c1 c2 c3 c4 c5 c6 cf HN1
    generalize w2.setCell ⟨z + 3, 0, none⟩ (.int .i64 (N : Int)) = w3 at *
    refine HK2.out.mono ?_
    rintro e w4 ⟨K, er4, p4, rfl, hK, hr4, hf4, hj4⟩
    have HJ4 := (show Hid _ from hj4)
    have HS4 := (show Hid _ from HS3.out.call hr4 hf4)
    clear hr4 hf4 hj4 HS3 HK2
    obtain ⟨c0, c1, c2, c3, c4, c5, c6⟩ := HS4.out.cells
    have cf := HS4.out.frozen
    go_upto_region 7 with (fail)
    clear c0 c1 c2 c3 c4 c5 c6 cf
    have HS5 := (show Hid _ from HS4.out.putK K)
    clear HS4
    generalize w4.setCell ⟨z + 3, 1, none⟩ (.int .i64 (K : Int)) = w5 at *
    obtain ⟨c0, c1, c2, c3, c4, c5, c6⟩ := HS5.out.cells
    go_cut [48] from 49 (fun u48 wc => u48 = .bool (decide (¬ (1 ≤ K ∧ K ≤ 7))) ∧ wc = w5)
    case first =>
      by_cases hk1 : K < 1
      · have e1 : decide ((K : Int) < 1) = true := decide_eq_true (by omega)
        go_wp2_with fail
        go_meet
        exact ⟨congrArg Value.bool (decide_eq_true (p := ¬ (1 ≤ K ∧ K ≤ 7)) (by omega)).symm, rfl⟩
      · have e1 : decide ((K : Int) < 1) = false := decide_eq_false (by omega)
        by_cases hk2 : 7 < K
        · have e2 : decide (7 < (K : Int)) = true := decide_eq_true (by omega)
          go_wp2_with fail
          go_meet
          exact ⟨congrArg Value.bool (decide_eq_true (p := ¬ (1 ≤ K ∧ K ≤ 7)) (by omega)).symm, rfl⟩
        · have e2 : decide (7 < (K : Int)) = false := decide_eq_false (by omega)
          go_wp2_with fail
          go_meet
          exact ⟨congrArg Value.bool (decide_eq_false (p := ¬ (1 ≤ K ∧ K ≤ 7)) (by omega)).symm, rfl⟩
    case' rest => obtain ⟨rfl, rfl⟩ := hcut
    clear c0 c1 c2 c3 c4 c5 c6
    have HS6 := (show Hid _ from HS5.out)
    clear HS5
    generalize wc = w6 at *
    go_upto_if 48 with (fail)
    have HB : Hid (∃ b, b = decide (¬ (1 ≤ K ∧ K ≤ 7))) := ⟨_, rfl⟩
    obtain ⟨b, hb⟩ := HB.out
    rw [← hb]
    go_cut [8] from 49 (fun u8 wc => u8 = .pointer (some ⟨z + 2, 0, none⟩) ∧ ∃ er pos, QS w wc z ao cap l pos er N K 0 (.slice none 0 0) (.slice none 0 0) false [] [] ∧ ((er = 0 ∧ (1 ≤ K ∧ K ≤ 7) ∧ ∃ a', pos = 8 * a' ∧ R = tl3 l N K a') ∨ (er ≠ 0 ∧ R = (er, default))))
    case first =>
      cases b
      · have hg : 1 ≤ K ∧ K ≤ 7 := Classical.not_not.1 (of_decide_eq_false hb.symm)
        have HG : Hid (1 ≤ K ∧ K ≤ 7) := hg
        clear hb hg
        go_wp2_with fail
        go_meet
        refine ⟨rfl, er4, p4, HS6.out, ?_⟩
        rcases HJ4.out with ⟨h0, a', h1, h2, _⟩ | ⟨h0, h1, _⟩
        · exact Or.inl ⟨h0, HG.out, a', h1, h2 HG.out⟩
        · have := HG.out; omega
      · have hg : ¬ (1 ≤ K ∧ K ≤ 7) := of_decide_eq_true hb.symm
        have HG : Hid (¬ (1 ≤ K ∧ K ≤ 7)) := hg
        clear hg
        have HF : Hid (Calls Tryd.prog 36 #[.pointer (some ⟨z + 2, 0, none⟩), .int .i64 161] w6 fun e w' => e = .returned (.tuple #[]) ∧ RD w' (z + 2) (z + 1) ao cap l p4 (if er4 = 0 then 161 else er4) ∧ Fr (fun k => k = z + 2) w6 w') := rfault_any (z + 2) (z + 1) ao cap l p4 er4 161 w6 HS6.out.rd
        clear hb
        go_wp2_with fail
        refine HF.out.mono ?_
        rintro e w7 ⟨rfl, hr7, hf7⟩
        have HS7 := (show Hid _ from HS6.out.call hr7 (hf7.mono (fun _ _ h => Or.inl h)))
        clear hr7 hf7 HF
        go_wp2_with fail
        go_meet
        refine ⟨rfl, _, p4, HS7.out, Or.inr ?_⟩
        rcases HJ4.out with ⟨h0, a', h1, _, h2⟩ | ⟨h0, h1, h2⟩
        · rw [if_pos h0]; exact ⟨by decide, h2 HG.out⟩
        · rw [if_neg h0]; exact ⟨h0, h2⟩
    obtain ⟨rfl, er7, p7, hs7, hj7⟩ := hcut
    have HS7 := (show Hid _ from hs7)
    have HJ7 := (show Hid _ from hj7)
    clear hs7 hj7 HJ4 HS6 HB hb
    generalize wc = w7 at *
    obtain ⟨c0, c1, c2, c3, c4, c5, c6⟩ := HS7.out.cells
    go_wp2_with fail
    refine (paged_all K w7).mono ?_
    rintro e w7b ⟨lo, hh, rfl, hlo, hhi, hlh, rfl⟩
    have HLO : Hid (lo ≤ 1 ∧ hh ≤ 64) := ⟨hlo, hhi⟩
    have HLH : Hid (1 ≤ K ∧ K ≤ 7 → lo = rLo K ∧ hh = rHi K) := hlh
    clear hlo hhi hlh
    have HP : Hid (Calls Tryd.prog 34 #[.pointer (some ⟨z + 2, 0, none⟩), .int .i64 (lo : Int), .int .i64 (hh : Int)] w7b (NumP w7b (z + 2) (z + 1) ao cap l lo hh (1 ≤ K ∧ K ≤ 7) (fun x3 => tl4 l N K x3.1 x3.2) R)) := by
      refine rnum_j (z + 2) (z + 1) ao cap l p7 er7 lo hh _ _ w7b _ _ R rfl rfl (by have := HLO.out; omega) (by have := HLO.out; omega) HS7.out.rd ?_
      rcases HJ7.out with ⟨h0, hg, a', h1, h2⟩ | h
      · obtain ⟨e1, e2⟩ := HLH.out hg
        exact Or.inl ⟨h0, hg, a', h1, by rw [e1, e2]; exact h2⟩
      · exact Or.inr h
    go_wp2_with fail
    refine HP.out.mono ?_
    rintro e w8 ⟨P, er8, p8, rfl, hr8, hf8, hj8⟩
    have HS8 := (show Hid _ from HS7.out.call hr8 hf8)
    have HJ8 : Hid ((er8 = 0 ∧ (1 ≤ K ∧ K ≤ 7) ∧ P ≤ 64 ∧ ∃ a', p8 = 8 * a' ∧ R = tl4 l N K P a') ∨ (er8 ≠ 0 ∧ R = (er8, default))) := by
      rcases hj8 with ⟨h0, hg, h1, h2, a', h3, h4⟩ | ⟨h0, h1, h2⟩
      · exact Or.inl ⟨h0, hg, by have := HLO.out; omega, a', h3, h4⟩
      · exact Or.inr ⟨h0, h2⟩
    have HP64 : Hid (P ≤ 64) := by rcases hj8 with ⟨_, _, _, h, _⟩ | ⟨_, h, _⟩ <;> (have := HLO.out; show _ ≤ _; omega)
    clear hr8 hf8 hj8 HP HLH HLO HJ7 HS7 c0 c1 c2 c3 c4 c5 c6
    obtain ⟨c0, c1, c2, c3, c4, c5, c6⟩ := HS8.out.cells
    have cf := HS8.out.frozen
    go_upto_region 11 with (fail)
    clear c0 c1 c2 c3 c4 c5 c6 cf
    have HS9 := (show Hid _ from HS8.out.putP P)
    clear HS8
    generalize w8.setCell ⟨z + 3, 2, none⟩ (.int .i64 (P : Int)) = w9 at *
    obtain ⟨c0, c1, c2, c3, c4, c5, c6⟩ := HS9.out.cells
    go_wp2_with fail
    refine (refers_all K w9).mono ?_
    rintro e w9b ⟨b, rfl, hbK, rfl⟩
    have HBK : Hid (1 ≤ K ∧ K ≤ 7 → b = rRef K) := hbK
    clear hbK
    go_upto_if 64 with (fail)
    go_cut [12] from 65 (fun u12 wc => u12 = .int .i64 ((mostN b N : Nat) : Int) ∧ wc = w9b)
    case first =>
      cases b
      · go_wp2_with fail
        go_meet
        exact ⟨rfl, rfl⟩
      · go_wp2_with fail
        go_meet
        exact ⟨rfl, rfl⟩
    obtain ⟨rfl, rfl⟩ := hcut
    clear c0 c1 c2 c3 c4 c5 c6
    have HS10 := (show Hid _ from HS9.out)
    clear HS9
    generalize wc = w10 at *
    have HMN : Hid (mostN b N ≤ N) := by cases b <;> simp [mostN, Hid]
    have HC : Hid (Calls Tryd.prog 34 #[.pointer (some ⟨z + 2, 0, none⟩), .int .i64 0, .int .i64 ((mostN b N : Nat) : Int)] w10 (NumP w10 (z + 2) (z + 1) ao cap l 0 (mostN b N) (1 ≤ K ∧ K ≤ 7) (fun x4 => tl5 l N K P x4.1 x4.2) R)) := by
      refine rnum_j (z + 2) (z + 1) ao cap l p8 er8 0 (mostN b N) _ _ w10 _ _ R rfl rfl (by omega) (by have := HMN.out; have := HN32.out; omega) HS10.out.rd ?_
      rcases HJ8.out with ⟨h0, hg, _, a', h1, h2⟩ | h
      · exact Or.inl ⟨h0, hg, a', h1, by rw [HBK.out hg]; exact h2⟩
      · exact Or.inr h
    generalize mostN b N = mb at *
    go_wp2_with fail
    refine HC.out.mono ?_
    rintro e w11 ⟨c, er11, p11, rfl, hr11, hf11, hj11⟩
    have HS11 := (show Hid _ from HS10.out.call hr11 hf11)
    have HJ11 : Hid ((er11 = 0 ∧ (1 ≤ K ∧ K ≤ 7) ∧ ∃ a', p11 = 8 * a' ∧ R = tl5 l N K P c a') ∨ (er11 ≠ 0 ∧ R = (er11, default))) := by
      rcases hj11 with ⟨h0, hg, _, _, a', h3, h4⟩ | ⟨h0, h1, h2⟩
      · exact Or.inl ⟨h0, hg, a', h3, h4⟩
      · exact Or.inr ⟨h0, h2⟩
    have HCN : Hid (c ≤ N) := by rcases hj11 with ⟨_, _, _, h, _⟩ | ⟨_, h, _⟩ <;> (have := HMN.out; show _ ≤ _; omega)
    clear hr11 hf11 hj11 HC HBK HJ8 HS10 HMN
    go_upto_block 0 with (fail)
    go_cut [8] from 70 to 95 (fun u8 wc => u8 = .pointer (some ⟨z + 2, 0, none⟩) ∧ ∃ er pos vr Rs, QS w wc z ao cap l pos er N K P vr (.slice none 0 0) false Rs [] ∧ ((er = 0 ∧ (1 ≤ K ∧ K ≤ 7) ∧ ∃ a', pos = 8 * a' ∧ R = tl6 l N K P Rs c a') ∨ (er ≠ 0 ∧ R = (er, default))))
    case first =>
      obtain ⟨M, hM⟩ : ∃ M, M = N - 1 := ⟨_, rfl⟩
      have HMN : Hid (M = N - 1) := hM
      clear hM
      go_wp2_with fail
      go_loopw [14, 15, 16] (fun s14 s15 _ wr => ∃ (k fr er pos : Nat) (vr : Value) (Rs : List Nat), k ≤ c ∧ fr ≤ 32768 ∧ s14 = .int .i64 (fr : Int) ∧ s15 = .int .i64 (k : Int) ∧ Hid (Rs.length = k) ∧ Hid (QS w wr z ao cap l pos er N K P vr (.slice none 0 0) false Rs []) ∧ Hid ((er = 0 ∧ (1 ≤ K ∧ K ≤ 7) ∧ ∃ a', pos = 8 * a' ∧ R = bindE (appR Rs (risS l M (c - k) a' fr)) (fun x5 => tl6 l N K P x5.1 c x5.2)) ∨ (er ≠ 0 ∧ R = (er, default)))) (fun _ s15 _ _ => (c - (intOf s15).toNat))
      case atStart =>
        refine ⟨0, 0, er11, p11, _, [], by omega, by omega, rfl, rfl, rfl, HS11.out, ?_⟩
        rcases HJ11.out with ⟨h0, hg, a', h1, h2⟩ | h
        · refine Or.inl ⟨h0, hg, a', h1, ?_⟩
          rw [h2, HMN.out]; simp [appR, tl5]
        · exact Or.inr h
      case round =>
        obtain ⟨k, fr, er, pos, vr, Rs, hk, hfr, rfl, rfl, HL, HSR, HJR⟩ := hrel
        obtain ⟨q0, q1, q2⟩ := HSR.out.reader
        have hwk : IntKind.i64.wrap ((k : Int) + 1) = (k : Int) + 1 := by have := HCN.out; have := HN32.out; rw [IntKind.wrap_i64]; omega
        by_cases hlt : k < c
        · have hd : decide ((k : Int) < (c : Int)) = true := decide_eq_true (by omega)
          by_cases h0 : er = 0
          · subst h0
            have HX : Hid (Calls Tryd.prog 34 #[.pointer (some ⟨z + 2, 0, none⟩), .int .i64 (fr : Int), .int .i64 (M : Int)] wr (NumP wr (z + 2) (z + 1) ao cap l fr M (1 ≤ K ∧ K ≤ 7) (fun y => bindE (appR (Rs ++ [y.1]) (risS l M (c - (k + 1)) y.2 (y.1 + 1))) (fun x5 => tl6 l N K P x5.1 c x5.2)) R)) := by
              refine rnum_j (z + 2) (z + 1) ao cap l pos 0 fr M _ _ wr _ _ R rfl rfl (by omega) (by have := HMN.out; have := HN32.out; omega) HSR.out.rd ?_
              rcases HJR.out with ⟨h0, hg, a', h1, h2⟩ | ⟨h, _⟩
              · refine Or.inl ⟨h0, hg, a', h1, ?_⟩
                rw [h2, show c - k = c - (k + 1) + 1 by omega, ris_step]
              · exact absurd rfl h
            have hNM : (N : Int) - 1 = (M : Int) := by have := HMN.out; have := HCN.out; omega
            have hMb : M ≤ 32767 := by have := HMN.out; have := HN32.out; omega
            obtain ⟨c0, c1, c2, c3, c4, c5, c6⟩ := HSR.out.cells
            go_wp2_with fail
            refine HX.out.mono ?_
            rintro e w12 ⟨x, er12, p12, rfl, hr12, hf12, hj12⟩
            have HS12 := (show Hid _ from HSR.out.call hr12 hf12)
            have HJ12 := (show Hid _ from hj12)
            have hxb : x ≤ 32767 := by rcases hj12 with ⟨_, _, _, h, _⟩ | ⟨_, h, _⟩ <;> omega
            clear hr12 hf12 hj12 HX HSR HJR q0 q1 q2 c0 c1 c2 c3 c4 c5 c6
            obtain ⟨c0, c1, c2, c3, c4, c5, c6⟩ := HS12.out.cells
            have hwx : IntKind.i64.wrap ((x : Int) + 1) = (x : Int) + 1 := by rw [IntKind.wrap_i64]; omega
            have HS13 := (show Hid _ from HS12.out.keptF ((Fr.refl (fun _ => False) w12).alloc (.cells #[.int .i64 (x : Int)] 3)))
            have HW13 := (show Hid _ from cell_new1 w12 (.int .i64 (x : Int)) 3)
            have HKL : Hid (Rs.length ≤ 32767) := by have := HL.out; have := HCN.out; have := HN32.out; show _ ≤ _; omega
            go_wp2_with (first | (at_builtin; refine wpList_plain rfl fun Kk hKk => wp_append_any _ (.tmp 91) (.tmp 93) 23 rfl z 3 i0 (.int .i64 0) 1 8 Tryd.underlying23 hi hz0 hz1 hz2 rfl (by decide) vr Rs.length (intCells Rs) rfl HS13.out.rr _ 1 1 [.int .i64 (x : Int)] rfl rfl HW13.out (by intro u hu; simp at hu; subst hu; rfl) (by have := HKL.out; unfold maxLen; omega) (by have := HKL.out; omega) (by have := HS13.out.fr.size; have := HZ.out; omega) ?_))
            intro v5 w14 ho5 hg5
            refine hKk _ _ ?_
            clear hKk
            obtain ⟨a5, c5', rfl⟩ := own_slice ho5
            obtain ⟨g3, gf⟩ := HS13.out.grownR hg5
            have HS15 := (show Hid _ from HS13.out.appR (L := [x]) hg5 ho5)
            clear ho5 hg5 HS12 HS13 HW13 c0 c1 c2 c3 c4 c5 c6
            go_wp2_with fail
            go_roundw
            case rel =>
              refine ⟨k + 1, x + 1, er12, p12, _, Rs ++ [x], by omega, by omega, congrArg (Value.int .i64) (by omega), congrArg (Value.int .i64) (by omega), by show _ = _; rw [List.length_append, HL.out]; rfl, HS15.out, ?_⟩
              rcases HJ12.out with ⟨h0, hg, _, _, a', h1, h2⟩ | ⟨h0, _, h1⟩
              · exact Or.inl ⟨h0, hg, a', h1, h2⟩
              · exact Or.inr ⟨h0, h1⟩
            case measure => simp [intOf]; omega
          · have he : ((er : Int) == 0) = false := by rw [beq_eq_false_iff_ne]; omega
            go_wp2_with fail
            go_meet
            refine ⟨rfl, er, pos, vr, Rs, HSR.out, ?_⟩
            rcases HJR.out with ⟨h, _⟩ | h
            · exact absurd h h0
            · exact Or.inr h
        · have hd : decide ((k : Int) < (c : Int)) = false := decide_eq_false (by omega)
          go_wp2_with fail
          go_meet
          refine ⟨rfl, er, pos, vr, Rs, HSR.out, ?_⟩
          rcases HJR.out with ⟨h0, hg, a', h1, h2⟩ | h
          · refine Or.inl ⟨h0, hg, a', h1, ?_⟩
            rw [h2, show c - k = 0 by omega, ris_end]
          · exact Or.inr h
    obtain ⟨rfl, er16, p16, vr, Rs, hs16, hj16⟩ := hcut
    have HS16 := (show Hid _ from hs16)
    have HJ16 := (show Hid _ from hj16)
    clear hs16 hj16 HJ11 HS11
    generalize wc = w16 at *
    go_upto_block 2 with (fail)
    go_cut [8] from 96 to 115 (fun u8 wc => u8 = .pointer (some ⟨z + 2, 0, none⟩) ∧ ∃ er pos vk Ks, QS w wc z ao cap l pos er N K P vr vk false Rs Ks ∧ ((er = 0 ∧ ∃ a', pos = 8 * a' + c ∧ ((1 ≤ K ∧ K ≤ 7) ∧ Ks = flgW l a' c) ∧ R = tl6 l N K P Rs c a') ∨ (er ≠ 0 ∧ R = (er, default))))
    case first =>
      go_wp2_with fail
      go_loopw [17] (fun s17 wr => ∃ (k er pos : Nat) (vk : Value) (Ks : List Bool), k ≤ c ∧ s17 = .int .i64 (k : Int) ∧ Hid (Ks.length = k) ∧ Hid (QS w wr z ao cap l pos er N K P vr vk false Rs Ks) ∧ Hid ((er = 0 ∧ ∃ a', pos = 8 * a' + k ∧ ((1 ≤ K ∧ K ≤ 7) ∧ Ks = flgW l a' k) ∧ R = tl6 l N K P Rs c a') ∨ (er ≠ 0 ∧ R = (er, default)))) (fun s17 _ => (c - (intOf s17).toNat))
      case atStart =>
        refine ⟨0, er16, p16, _, [], by omega, rfl, rfl, HS16.out, ?_⟩
        rcases HJ16.out with ⟨h0, hg, a', h1, h2⟩ | h
        · exact Or.inl ⟨h0, a', h1, ⟨hg, rfl⟩, h2⟩
        · exact Or.inr h
      case round =>
        obtain ⟨k, er, pos, vk, Ks, hk, rfl, HL, HSR, HJR⟩ := hrel
        obtain ⟨q0, q1, q2⟩ := HSR.out.reader
        have hwk : IntKind.i64.wrap ((k : Int) + 1) = (k : Int) + 1 := by have := HCN.out; have := HN32.out; rw [IntKind.wrap_i64]; omega
        by_cases hlt : k < c
        · have hd : decide ((k : Int) < (c : Int)) = true := decide_eq_true (by omega)
          by_cases h0 : er = 0
          · subst h0
            have HX : Hid (Calls Tryd.prog 35 #[.pointer (some ⟨z + 2, 0, none⟩), .int .i64 1] wr.drew (FlagP wr.drew (z + 2) (z + 1) ao cap l k c (fun a' => (1 ≤ K ∧ K ≤ 7) ∧ Ks = flgW l a' k) (fun x6 => bindE (stayS (rStay K) x6.2.1) fun _ => tl7 l N K P Rs x6.1 x6.2.1 x6.2.2) R)) :=
              rflag_j (z + 2) (z + 1) ao cap l pos 0 k c wr.drew _ _ R (HSR.out.keptF (Fr.refl _ _).drew).rd (by omega) HJR.out
            obtain ⟨c0, c1, c2, c3, c4, c5, c6⟩ := HSR.out.cells
            go_upto_region 25 with (fail)
            have HKL : Hid (Ks.length ≤ 32767) := by have := HL.out; have := HCN.out; have := HN32.out; show _ ≤ _; omega
            refine wp_region_held_drew (S := fun _ => True) (by kernel_rfl) trivial (fun hHeld => ?_)
            refine wpAnyH_take (i := 0) (oi := _) (v := ?vv0) rfl (by kernel_rfl) (by kernel_rfl) (by kernel_rfl) (fun _ _ _ h => h) (Or.inl ⟨by kernel_rfl, ?hy0⟩) (by assumption) ?_
            case hy0 => (intro w hSw; go_simp; all_goals (with_reducible rfl))
            (try simp only [Act.put, List.setIfInBounds_toArray, List.set_cons_zero, List.set_cons_succ])
            refine wpAnyH_take (i := 2) (oi := _) (v := ?vv2) rfl (by kernel_rfl) (by kernel_rfl) (by kernel_rfl) (fun _ _ _ h => h) (Or.inl ⟨by kernel_rfl, ?hy2⟩) (by assumption) ?_
            case hy2 => (intro w hSw; go_simp; all_goals (with_reducible rfl))
            (try simp only [Act.put, List.setIfInBounds_toArray, List.set_cons_zero, List.set_cons_succ])
            refine wpAnyH_ready (rs := [1, 3]) (by kernel_rfl) (by simp) ?_
            refine AllReadyH.cons (o := _) rfl (fun C hC => ?_) (AllReadyH.cons (o := _) rfl (fun C hC => ?_) AllReadyH.nil)
            · go_simp
              refine hC.out _ _ trivial (fun hHeld => ?_)
              clear hC C
              (try simp only [Act.put, List.setIfInBounds_toArray, List.set_cons_zero, List.set_cons_succ])
              refine wpAnyH_ready (rs := [3]) (by kernel_rfl) (by simp) ?_
              refine AllReadyH.cons (o := _) rfl (fun C hC => ?_) AllReadyH.nil
              go_simp
              refine HX.out.mono ?_
              rintro e w12 ⟨x, er12, p12, rfl, hr12, hf12, hj12⟩
              have HS12 := (show Hid _ from (HSR.out.keptF (Fr.refl _ _).drew).call hr12 hf12)
              have HJ12 := (show Hid _ from hj12)
              clear hr12 hf12 hj12
              obtain ⟨e0, e1, e2, e3, e4, e5, e6⟩ := HS12.out.cells
              go_simp
              refine hC.out _ _ trivial (fun hHeld => ?_)
              clear hC C
              (try simp only [Act.put, List.setIfInBounds_toArray, List.set_cons_zero, List.set_cons_succ])
              refine wpAnyH_take (i := 4) (oi := _) (v := ?vv4) rfl (by kernel_rfl) (by kernel_rfl) (by kernel_rfl) (fun _ _ _ h => h) (Or.inl ⟨by kernel_rfl, ?hy4⟩) (by assumption) ?_
              case hy4 => (intro w hSw; go_simp; all_goals (with_reducible rfl))
              (try simp only [Act.put, List.setIfInBounds_toArray, List.set_cons_zero, List.set_cons_succ])
              refine wpAnyH_ready (rs := [5]) (by kernel_rfl) (by simp) ?_
              refine AllReadyH.cons (o := _) rfl (fun C hC => ?_) AllReadyH.nil
              go_simp
              have HS13 := (show Hid _ from HS12.out.keptF ((Fr.refl (fun _ => False) w12).alloc (.cells #[.bool ((x : Int) == 1)] 4)))
              have HW13 := (show Hid _ from cell_new1 w12 (.bool ((x : Int) == 1)) 4)
              obtain ⟨e0, e1, e2, e3, e4, e5, e6⟩ := HS13.out.cells
              refine hC.out _ _ trivial (fun hHeld => ?_)
              clear hC C
              (try simp only [Act.put, List.setIfInBounds_toArray, List.set_cons_zero, List.set_cons_succ])
              refine wpAnyH_ready (rs := [6]) (by kernel_rfl) (by simp) ?_
              refine AllReadyH.cons (o := _) rfl (fun C hC => ?_) AllReadyH.nil
              refine step_append_any _ rfl (.tmp 109) (.tmp 113) 24 rfl z 4 j0 (.bool false) 1 1 Tryd.underlying24 hj hj0 hj1 hj2 rfl (by decide) vk Ks.length (boolCells Ks) (by rfl) HS13.out.rk _ 1 1 [.bool ((x : Int) == 1)] (by rfl) (by rfl) HW13.out (by intro u hu; simp at hu; subst hu; rfl) (by have := HKL.out; unfold maxLen; omega) (by have := HKL.out; omega) (by have := HS13.out.fr.size; have := HZ.out; omega) ?_
              intro v5 w14 ho5 hg5
              obtain ⟨a5, c5', rfl⟩ := own_slice ho5
              obtain ⟨g3, gf⟩ := HS13.out.grownK hg5
              have HS15 := (show Hid _ from HS13.out.appK (L := [(x : Int) == 1]) hg5 ho5)
              refine hC.out _ _ trivial (fun hHeld => ?_)
              clear hC C
              (try simp only [Act.put, List.setIfInBounds_toArray, List.set_cons_zero, List.set_cons_succ])
              refine wpAnyH_ready (rs := [7]) (by kernel_rfl) (by simp) ?_
              refine AllReadyH.cons (o := _) rfl (fun C hC => ?_) AllReadyH.nil
              go_simp
              refine hC.out _ _ trivial (fun hHeld => ?_)
              clear hC C
              (try simp only [Act.put, List.setIfInBounds_toArray, List.set_cons_zero, List.set_cons_succ])
              refine wpAnyH_ready (rs := [8]) (by kernel_rfl) (by simp) ?_
              refine AllReadyH.cons (o := _) rfl (fun C hC => ?_) AllReadyH.nil
              go_simp
              refine hC.out _ _ trivial (fun hHeld => ?_)
              clear hC C
              refine wpAnyH_done (by kernel_rfl) ?_ _
              go_wp2_with fail
              go_roundw
              case rel =>
                refine ⟨k + 1, er12, p12, _, Ks ++ [(x : Int) == 1], by omega, congrArg (Value.int .i64) (by omega), by show _ = _; rw [List.length_append, HL.out]; rfl, HS15.out, ?_⟩
                rcases HJ12.out with ⟨h0, a', h1, ⟨hg, h2⟩, h3, _, h4⟩ | ⟨h0, h1⟩
                · refine Or.inl ⟨h0, a', h1, ⟨hg, ?_⟩, h4⟩
                  rw [flgW_succ, h2, h3]; rfl
                · exact Or.inr ⟨h0, h1⟩
              case measure => simp [intOf]; omega
            · go_simp
              refine HX.out.mono ?_
              rintro e w12 ⟨x, er12, p12, rfl, hr12, hf12, hj12⟩
              have HS12 := (show Hid _ from (HSR.out.keptF (Fr.refl _ _).drew).call hr12 hf12)
              have HJ12 := (show Hid _ from hj12)
              clear hr12 hf12 hj12
              obtain ⟨e0, e1, e2, e3, e4, e5, e6⟩ := HS12.out.cells
              go_simp
              refine hC.out _ _ trivial (fun hHeld => ?_)
              clear hC C
              (try simp only [Act.put, List.setIfInBounds_toArray, List.set_cons_zero, List.set_cons_succ])
              refine wpAnyH_take (i := 4) (oi := _) (v := ?vv4b) rfl (by kernel_rfl) (by kernel_rfl) (by kernel_rfl) (fun _ _ _ h => h) (Or.inl ⟨by kernel_rfl, ?hy4b⟩) (by assumption) ?_
              case hy4b => (intro w hSw; go_simp; all_goals (with_reducible rfl))
              (try simp only [Act.put, List.setIfInBounds_toArray, List.set_cons_zero, List.set_cons_succ])
              refine wpAnyH_ready (rs := [1, 5]) (by kernel_rfl) (by simp) ?_
              refine AllReadyH.cons (o := _) rfl (fun C hC => ?_) (AllReadyH.cons (o := _) rfl (fun C hC => ?_) AllReadyH.nil)
              · go_simp
                refine hC.out _ _ trivial (fun hHeld => ?_)
                clear hC C
                (try simp only [Act.put, List.setIfInBounds_toArray, List.set_cons_zero, List.set_cons_succ])
                refine wpAnyH_ready (rs := [5]) (by kernel_rfl) (by simp) ?_
                refine AllReadyH.cons (o := _) rfl (fun C hC => ?_) AllReadyH.nil
                go_simp
                have HS13 := (show Hid _ from HS12.out.keptF ((Fr.refl (fun _ => False) w12).alloc (.cells #[.bool ((x : Int) == 1)] 4)))
                have HW13 := (show Hid _ from cell_new1 w12 (.bool ((x : Int) == 1)) 4)
                obtain ⟨e0, e1, e2, e3, e4, e5, e6⟩ := HS13.out.cells
                refine hC.out _ _ trivial (fun hHeld => ?_)
                clear hC C
                (try simp only [Act.put, List.setIfInBounds_toArray, List.set_cons_zero, List.set_cons_succ])
                refine wpAnyH_ready (rs := [6]) (by kernel_rfl) (by simp) ?_
                refine AllReadyH.cons (o := _) rfl (fun C hC => ?_) AllReadyH.nil
                refine step_append_any _ rfl (.tmp 109) (.tmp 113) 24 rfl z 4 j0 (.bool false) 1 1 Tryd.underlying24 hj hj0 hj1 hj2 rfl (by decide) vk Ks.length (boolCells Ks) (by rfl) HS13.out.rk _ 1 1 [.bool ((x : Int) == 1)] (by rfl) (by rfl) HW13.out (by intro u hu; simp at hu; subst hu; rfl) (by have := HKL.out; unfold maxLen; omega) (by have := HKL.out; omega) (by have := HS13.out.fr.size; have := HZ.out; omega) ?_
                intro v5 w14 ho5 hg5
                obtain ⟨a5, c5', rfl⟩ := own_slice ho5
                obtain ⟨g3, gf⟩ := HS13.out.grownK hg5
                have HS15 := (show Hid _ from HS13.out.appK (L := [(x : Int) == 1]) hg5 ho5)
                refine hC.out _ _ trivial (fun hHeld => ?_)
                clear hC C
                (try simp only [Act.put, List.setIfInBounds_toArray, List.set_cons_zero, List.set_cons_succ])
                refine wpAnyH_ready (rs := [7]) (by kernel_rfl) (by simp) ?_
                refine AllReadyH.cons (o := _) rfl (fun C hC => ?_) AllReadyH.nil
                go_simp
                refine hC.out _ _ trivial (fun hHeld => ?_)
                clear hC C
                (try simp only [Act.put, List.setIfInBounds_toArray, List.set_cons_zero, List.set_cons_succ])
                refine wpAnyH_ready (rs := [8]) (by kernel_rfl) (by simp) ?_
                refine AllReadyH.cons (o := _) rfl (fun C hC => ?_) AllReadyH.nil
                go_simp
                refine hC.out _ _ trivial (fun hHeld => ?_)
                clear hC C
                refine wpAnyH_done (by kernel_rfl) ?_ _
                go_wp2_with fail
                go_roundw
                case rel =>
                  refine ⟨k + 1, er12, p12, _, Ks ++ [(x : Int) == 1], by omega, congrArg (Value.int .i64) (by omega), by show _ = _; rw [List.length_append, HL.out]; rfl, HS15.out, ?_⟩
                  rcases HJ12.out with ⟨h0, a', h1, ⟨hg, h2⟩, h3, _, h4⟩ | ⟨h0, h1⟩
                  · refine Or.inl ⟨h0, a', h1, ⟨hg, ?_⟩, h4⟩
                    rw [flgW_succ, h2, h3]; rfl
                  · exact Or.inr ⟨h0, h1⟩
                case measure => simp [intOf]; omega
              · go_simp
                have HS13 := (show Hid _ from HS12.out.keptF ((Fr.refl (fun _ => False) w12).alloc (.cells #[.bool ((x : Int) == 1)] 4)))
                have HW13 := (show Hid _ from cell_new1 w12 (.bool ((x : Int) == 1)) 4)
                obtain ⟨e0, e1, e2, e3, e4, e5, e6⟩ := HS13.out.cells
                refine hC.out _ _ trivial (fun hHeld => ?_)
                clear hC C
                (try simp only [Act.put, List.setIfInBounds_toArray, List.set_cons_zero, List.set_cons_succ])
                refine wpAnyH_ready (rs := [1]) (by kernel_rfl) (by simp) ?_
                refine AllReadyH.cons (o := _) rfl (fun C hC => ?_) AllReadyH.nil
                go_simp
                refine hC.out _ _ trivial (fun hHeld => ?_)
                clear hC C
                (try simp only [Act.put, List.setIfInBounds_toArray, List.set_cons_zero, List.set_cons_succ])
                refine wpAnyH_ready (rs := [6]) (by kernel_rfl) (by simp) ?_
                refine AllReadyH.cons (o := _) rfl (fun C hC => ?_) AllReadyH.nil
                refine step_append_any _ rfl (.tmp 109) (.tmp 113) 24 rfl z 4 j0 (.bool false) 1 1 Tryd.underlying24 hj hj0 hj1 hj2 rfl (by decide) vk Ks.length (boolCells Ks) (by rfl) HS13.out.rk _ 1 1 [.bool ((x : Int) == 1)] (by rfl) (by rfl) HW13.out (by intro u hu; simp at hu; subst hu; rfl) (by have := HKL.out; unfold maxLen; omega) (by have := HKL.out; omega) (by have := HS13.out.fr.size; have := HZ.out; omega) ?_
                intro v5 w14 ho5 hg5
                obtain ⟨a5, c5', rfl⟩ := own_slice ho5
                obtain ⟨g3, gf⟩ := HS13.out.grownK hg5
                have HS15 := (show Hid _ from HS13.out.appK (L := [(x : Int) == 1]) hg5 ho5)
                refine hC.out _ _ trivial (fun hHeld => ?_)
                clear hC C
                (try simp only [Act.put, List.setIfInBounds_toArray, List.set_cons_zero, List.set_cons_succ])
                refine wpAnyH_ready (rs := [7]) (by kernel_rfl) (by simp) ?_
                refine AllReadyH.cons (o := _) rfl (fun C hC => ?_) AllReadyH.nil
                go_simp
                refine hC.out _ _ trivial (fun hHeld => ?_)
                clear hC C
                (try simp only [Act.put, List.setIfInBounds_toArray, List.set_cons_zero, List.set_cons_succ])
                refine wpAnyH_ready (rs := [8]) (by kernel_rfl) (by simp) ?_
                refine AllReadyH.cons (o := _) rfl (fun C hC => ?_) AllReadyH.nil
                go_simp
                refine hC.out _ _ trivial (fun hHeld => ?_)
                clear hC C
                refine wpAnyH_done (by kernel_rfl) ?_ _
                go_wp2_with fail
                go_roundw
                case rel =>
                  refine ⟨k + 1, er12, p12, _, Ks ++ [(x : Int) == 1], by omega, congrArg (Value.int .i64) (by omega), by show _ = _; rw [List.length_append, HL.out]; rfl, HS15.out, ?_⟩
                  rcases HJ12.out with ⟨h0, a', h1, ⟨hg, h2⟩, h3, _, h4⟩ | ⟨h0, h1⟩
                  · refine Or.inl ⟨h0, a', h1, ⟨hg, ?_⟩, h4⟩
                    rw [flgW_succ, h2, h3]; rfl
                  · exact Or.inr ⟨h0, h1⟩
                case measure => simp [intOf]; omega
          · have he : ((er : Int) == 0) = false := by rw [beq_eq_false_iff_ne]; omega
            go_wp2_with fail
            go_meet
            refine ⟨rfl, er, pos, vk, Ks, HSR.out, ?_⟩
            rcases HJR.out with ⟨h, _⟩ | h
            · exact absurd h h0
            · exact Or.inr h
        · have hd : decide ((k : Int) < (c : Int)) = false := decide_eq_false (by omega)
          have hkc : k = c := by omega
          go_wp2_with fail
          go_meet
          refine ⟨rfl, er, pos, vk, Ks, HSR.out, ?_⟩
          rw [hkc] at HJR
          exact HJR.out
    obtain ⟨rfl, er20, p20, vk, Ks, hs20, hj20⟩ := hcut
    have HS20 := (show Hid _ from hs20)
    have HJ20 := (show Hid _ from hj20)
    clear hs20 hj20 HJ16 HS16
    generalize wc = w20 at *
    have HX20 : Hid (Calls Tryd.prog 35 #[.pointer (some ⟨z + 2, 0, none⟩), .int .i64 1] w20 (FlagP w20 (z + 2) (z + 1) ao cap l c c (fun a' => (1 ≤ K ∧ K ≤ 7) ∧ Ks = flgW l a' c) (fun x6 => bindE (stayS (rStay K) x6.2.1) fun _ => tl7 l N K P Rs x6.1 x6.2.1 x6.2.2) R)) :=
      rflag_j (z + 2) (z + 1) ao cap l p20 er20 c c w20 _ _ R HS20.out.rd (Nat.le_refl _) HJ20.out
    go_wp2_with fail
    refine HX20.out.mono ?_
    rintro e w21 ⟨x, er21, p21, rfl, hr21, hf21, hj21⟩
    have HS21 := (show Hid _ from HS20.out.call hr21 hf21)
    obtain ⟨st, hst⟩ : ∃ st, st = ((x : Int) == 1) := ⟨_, rfl⟩
    have HJ21 : Hid ((er21 = 0 ∧ (1 ≤ K ∧ K ≤ 7) ∧ ∃ a', (rpad l p21).2.2 = 8 * a' ∧ R = if (rpad l p21).2.1 = 0 then bindE (stayS (rStay K) st) (fun _ => tl7 l N K P Rs Ks st a') else (161, default)) ∨ (er21 ≠ 0 ∧ R = (er21, default))) := by
      rcases hj21 with ⟨h0, a', h1, ⟨hg, h2⟩, h3, h4, h5⟩ | h
      · refine Or.inl ⟨h0, hg, a' + (c / 8 + 1), ?_, ?_⟩
        · rw [h1]; exact (rpad_pt l a' c (by omega)).2
        · have h6 := flg_join h4 h5
          rw [h1, h6, h2, hst, h3]; rfl
      · exact Or.inr h
    clear hr21 hf21 hj21 HX20 HJ20 HS20
    obtain ⟨c0, c1, c2, c3, c4, c5, c6⟩ := HS21.out.cells
    have cf := HS21.out.frozen
    go_upto_region 27 with (fail)
    clear c0 c1 c2 c3 c4 c5 c6 cf
    rw [← hst]
    have HS22 := (show Hid _ from HS21.out.putS st)
    clear HS21 hst
    generalize w21.setCell ⟨z + 3, 5, none⟩ (.bool st) = w22 at *
    obtain ⟨c0, c1, c2, c3, c4, c5, c6⟩ := HS22.out.cells
    go_cut [126] from 127 (fun u wc => u = .bool (decide (st = true ∧ K ≠ 2)) ∧ wc = w22)
    case first =>
      cases st
      · go_wp2_with fail
        go_meet
        refine ⟨congrArg Value.bool ?_, rfl⟩
        simp
      · by_cases h2 : K = 2
        · have e2 : ((K : Int) != 2) = false := by rw [h2]; rfl
          have H2 : Hid (K = 2) := h2
          clear h2
          go_wp2_with fail
          go_meet
          exact ⟨congrArg Value.bool (decide_eq_false (fun h => h.2 H2.out)).symm, rfl⟩
        · have e2 : ((K : Int) != 2) = true := by rw [bne_iff_ne]; omega
          go_wp2_with fail
          go_meet
          exact ⟨congrArg Value.bool (decide_eq_true ⟨by simp, h2⟩).symm, rfl⟩
    obtain ⟨rfl, rfl⟩ := hcut
    clear c0 c1 c2 c3 c4 c5 c6
    have HS23 := (show Hid _ from HS22.out)
    clear HS22
    generalize wc = w23 at *
    go_upto_if 126 with (fail)
    have HB : Hid (∃ b, b = decide (st = true ∧ K ≠ 2)) := ⟨_, rfl⟩
    obtain ⟨b, hb⟩ := HB.out
    rw [← hb]
    go_cut [8] from 127 (fun u8 wc => u8 = .pointer (some ⟨z + 2, 0, none⟩) ∧ ∃ er pos, QS w wc z ao cap l pos er N K P vr vk st Rs Ks ∧ ((er = 0 ∧ (1 ≤ K ∧ K ≤ 7) ∧ ∃ a', (rpad l pos).2.2 = 8 * a' ∧ R = if (rpad l pos).2.1 = 0 then tl7 l N K P Rs Ks st a' else (161, default)) ∨ (er ≠ 0 ∧ R = (er, default))))
    case first =>
      cases b
      · have hg : ¬ (st = true ∧ K ≠ 2) := of_decide_eq_false hb.symm
        have HG : Hid (¬ (st = true ∧ K ≠ 2)) := hg
        clear hb hg
        go_wp2_with fail
        go_meet
        refine ⟨rfl, er21, p21, HS23.out, ?_⟩
        rcases HJ21.out with ⟨h0, hg, a', h1, h2⟩ | h
        · exact Or.inl ⟨h0, hg, a', h1, by rw [h2, stay_ok HG.out]⟩
        · exact Or.inr h
      · have hg : st = true ∧ K ≠ 2 := of_decide_eq_true hb.symm
        have HG : Hid (st = true ∧ K ≠ 2) := hg
        clear hg
        have HF : Hid (Calls Tryd.prog 36 #[.pointer (some ⟨z + 2, 0, none⟩), .int .i64 161] w23 fun e w' => e = .returned (.tuple #[]) ∧ RD w' (z + 2) (z + 1) ao cap l p21 (if er21 = 0 then 161 else er21) ∧ Fr (fun k => k = z + 2) w23 w') := rfault_any (z + 2) (z + 1) ao cap l p21 er21 161 w23 HS23.out.rd
        clear hb
        go_wp2_with fail
        refine HF.out.mono ?_
        rintro e w7 ⟨rfl, hr7, hf7⟩
        have HS7 := (show Hid _ from HS23.out.call hr7 (hf7.mono (fun _ _ h => Or.inl h)))
        clear hr7 hf7 HF
        go_wp2_with fail
        go_meet
        refine ⟨rfl, _, p21, HS7.out, Or.inr ?_⟩
        rcases HJ21.out with ⟨h0, _, a', _, h2⟩ | ⟨h0, h2⟩
        · rw [if_pos h0]; exact ⟨by decide, by rw [h2, stay_no HG.out]; split <;> rfl⟩
        · rw [if_neg h0]; exact ⟨h0, h2⟩
    obtain ⟨rfl, er24, p24, hs24, hj24⟩ := hcut
    have HS24 := (show Hid _ from hs24)
    have HJ24 := (show Hid _ from hj24)
    clear hs24 hj24 HJ21 HS23 HB hb
    generalize wc = w24 at *
    obtain ⟨q0, q1, q2⟩ := HS24.out.reader
    go_upto_region 29 with (fail)
    go_cut [141] from 142 (fun u wc => ∃ bb er pos, u = .bool bb ∧ QS w wc z ao cap l pos er N K P vr vk st Rs Ks ∧ ((er = 0 ∧ bb = false ∧ (1 ≤ K ∧ K ≤ 7) ∧ ∃ a', pos = 8 * a' ∧ R = tl7 l N K P Rs Ks st a') ∨ (er = 0 ∧ bb = true ∧ R = (161, default)) ∨ (er ≠ 0 ∧ bb = false ∧ R = (er, default))))
    case first =>
      by_cases h0 : er24 = 0
      · subst h0
        obtain ⟨n0, e0, p2, hq⟩ : ∃ n0 e0 p2, rpad l p24 = (n0, e0, p2) := ⟨_, _, _, rfl⟩
        have HA : Hid (Calls Tryd.prog 37 #[.pointer (some ⟨z + 1, 0, none⟩)] w24 fun e w' => e = .returned (.int .i64 e0) ∧ QAt w' (z + 1) ao cap l (backTo e0 p2 p24) ∧ Fr (fun k => k = z + 1) w24 w') := qalign_any (z + 1) ao cap l p24 n0 e0 p2 w24 HS24.out.rd.q hq
        have HR24 : Hid ((1 ≤ K ∧ K ≤ 7) ∧ ∃ a', p2 = 8 * a' ∧ R = if e0 = 0 then tl7 l N K P Rs Ks st a' else (161, default)) := by
          rcases HJ24.out with ⟨_, hg, a', h1, h2⟩ | ⟨h, _⟩
          · rw [hq] at h1 h2; exact ⟨hg, a', h1, h2⟩
          · exact absurd rfl h
        rcases (show e0 = 0 ∨ e0 = 15 by have := rpad_er l p24; rw [hq] at this; exact this) with he | he
        · subst he
          clear hq
          go_wp2_with fail
          refine HA.out.mono ?_
          rintro e w25 ⟨rfl, hq25, hf25⟩
          have HS25 := (show Hid _ from HS24.out.call (HS24.out.rd.step hq25 hf25) (hf25.mono (fun _ _ h => Or.inr h)))
          clear hq25 hf25
          go_wp2_with fail
          go_meet
          obtain ⟨hg, a', h1, h2⟩ := HR24.out
          exact ⟨false, 0, _, rfl, HS25.out, Or.inl ⟨rfl, rfl, hg, a', by rw [backTo_ok]; exact h1, by rw [h2]; simp⟩⟩
        · subst he
          clear hq
          go_wp2_with fail
          refine HA.out.mono ?_
          rintro e w25 ⟨rfl, hq25, hf25⟩
          have HS25 := (show Hid _ from HS24.out.call (HS24.out.rd.step hq25 hf25) (hf25.mono (fun _ _ h => Or.inr h)))
          clear hq25 hf25
          go_wp2_with fail
          go_meet
          obtain ⟨hg, a', h1, h2⟩ := HR24.out
          exact ⟨true, 0, _, rfl, HS25.out, Or.inr (Or.inl ⟨rfl, rfl, by rw [h2]; simp⟩)⟩
      · have he : ((er24 : Int) == 0) = false := by rw [beq_eq_false_iff_ne]; omega
        have H0 : Hid (er24 ≠ 0) := h0
        clear h0
        go_wp2_with fail
        go_meet
        refine ⟨false, er24, p24, rfl, HS24.out, Or.inr (Or.inr ⟨H0.out, rfl, ?_⟩)⟩
        rcases HJ24.out with ⟨h, _⟩ | ⟨_, h⟩
        · exact absurd h H0.out
        · exact h
    obtain ⟨bb, er26, p26, rfl, hs26, hj26⟩ := hcut
    have HS26 := (show Hid _ from hs26)
    have HJ26 := (show Hid _ from hj26)
    clear hs26 hj26 HJ24 HS24 q0 q1 q2
    generalize wc = w26 at *
    go_upto_if 141 with (fail)
    go_cut [8] from 142 (fun u8 wc => u8 = .pointer (some ⟨z + 2, 0, none⟩) ∧ ∃ er pos, QS w wc z ao cap l pos er N K P vr vk st Rs Ks ∧ ((er = 0 ∧ (1 ≤ K ∧ K ≤ 7) ∧ ∃ a', pos = 8 * a' ∧ R = tl7 l N K P Rs Ks st a') ∨ (er ≠ 0 ∧ R = (er, default))))
    case first =>
      cases bb
      · go_wp2_with fail
        go_meet
        refine ⟨rfl, er26, p26, HS26.out, ?_⟩
        rcases HJ26.out with ⟨h0, _, hg, a', h1, h2⟩ | ⟨_, h, _⟩ | ⟨h0, _, h1⟩
        · exact Or.inl ⟨h0, hg, a', h1, h2⟩
        · exact absurd h (by decide)
        · exact Or.inr ⟨h0, h1⟩
      · have HF : Hid (Calls Tryd.prog 36 #[.pointer (some ⟨z + 2, 0, none⟩), .int .i64 161] w26 fun e w' => e = .returned (.tuple #[]) ∧ RD w' (z + 2) (z + 1) ao cap l p26 (if er26 = 0 then 161 else er26) ∧ Fr (fun k => k = z + 2) w26 w') := rfault_any (z + 2) (z + 1) ao cap l p26 er26 161 w26 HS26.out.rd
        go_wp2_with fail
        refine HF.out.mono ?_
        rintro e w7 ⟨rfl, hr7, hf7⟩
        have HS7 := (show Hid _ from HS26.out.call hr7 (hf7.mono (fun _ _ h => Or.inl h)))
        clear hr7 hf7 HF
        go_wp2_with fail
        go_meet
        refine ⟨rfl, _, p26, HS7.out, Or.inr ?_⟩
        rcases HJ26.out with ⟨_, h, _⟩ | ⟨h0, _, h1⟩ | ⟨_, h, _⟩
        · exact absurd h (by decide)
        · rw [if_pos h0]; exact ⟨by decide, h1⟩
        · exact absurd h (by decide)
    obtain ⟨rfl, er28, p28, hs28, hj28⟩ := hcut
    have HS28 := (show Hid _ from hs28)
    have HJ28 := (show Hid _ from hj28)
    clear hs28 hj28 HJ26 HS26
    generalize wc = w28 at *
    obtain ⟨c0, c1, c2, c3, c4, c5, c6⟩ := HS28.out.cells
    go_upto_region 32 with (fail)
    go_cut [151] from 152 (fun u wc => u = .bool (decide (K = 6 ∨ K = 7)) ∧ wc = w28)
    case first =>
      by_cases h6 : K = 6
      · have e6 : ((K : Int) == 6) = true := by rw [h6]; rfl
        have H6 : Hid (K = 6) := h6
        clear h6
        go_wp2_with fail
        go_meet
        exact ⟨congrArg Value.bool (decide_eq_true (Or.inl H6.out)).symm, rfl⟩
      · have e6 : ((K : Int) == 6) = false := by rw [beq_eq_false_iff_ne]; omega
        by_cases h7 : K = 7
        · have e7 : ((K : Int) == 7) = true := by rw [h7]; rfl
          have H7 : Hid (K = 7) := h7
          clear h7
          go_wp2_with fail
          go_meet
          exact ⟨congrArg Value.bool (decide_eq_true (Or.inr H7.out)).symm, rfl⟩
        · have e7 : ((K : Int) == 7) = false := by rw [beq_eq_false_iff_ne]; omega
          go_wp2_with fail
          go_meet
          exact ⟨congrArg Value.bool (decide_eq_false (fun h => h.elim h6 h7)).symm, rfl⟩
    obtain ⟨rfl, rfl⟩ := hcut
    clear c0 c1 c2 c3 c4 c5 c6
    have HS29 := (show Hid _ from HS28.out)
    clear HS28
    generalize wc = w29 at *
    go_upto_if 151 with (fail)
    have HB : Hid (∃ b, b = decide (K = 6 ∨ K = 7)) := ⟨_, rfl⟩
    obtain ⟨b, hb⟩ := HB.out
    rw [← hb]
    go_cut [12] from 152 (fun u12 wc => u12 = .int .i64 ((dataM K : Nat) : Int) ∧ wc = w29)
    case first =>
      cases b
      · have hg : dataM K = 67108864 := if_neg (of_decide_eq_false hb.symm)
        have HG : Hid (dataM K = 67108864) := hg
        clear hb hg
        go_wp2_with fail
        go_meet
        exact ⟨by rw [HG.out]; rfl, rfl⟩
      · have hg : dataM K = 0 := if_pos (of_decide_eq_true hb.symm)
        have HG : Hid (dataM K = 0) := hg
        clear hb hg
        go_wp2_with fail
        go_meet
        exact ⟨by rw [HG.out]; rfl, rfl⟩
    obtain ⟨rfl, rfl⟩ := hcut
    have HS30 := (show Hid _ from HS29.out)
    clear HS29 HB hb
    generalize wc = w30 at *
    have HDM : Hid (dataM K ≤ 67108864) := by show _ ≤ _; unfold dataM; split <;> omega
    have HX : Hid (Calls Tryd.prog 34 #[.pointer (some ⟨z + 2, 0, none⟩), .int .i64 0, .int .i64 ((dataM K : Nat) : Int)] w30 (NumP w30 (z + 2) (z + 1) ao cap l 0 (dataM K) True (fun x7 => (0, ⟨N, K, P, Rs, Ks, st⟩, x7.1, x7.2)) R)) := by
      refine rnum_j (z + 2) (z + 1) ao cap l p28 er28 0 (dataM K) _ _ w30 _ _ R rfl rfl (by omega) (by have := HDM.out; omega) HS30.out.rd ?_
      rcases HJ28.out with ⟨h0, hg, a', h1, h2⟩ | h
      · exact Or.inl ⟨h0, trivial, a', h1, by rw [dataM_good hg]; exact h2⟩
      · exact Or.inr h
    generalize dataM K = dm at *
    go_wp2_with fail
    refine HX.out.mono ?_
    rintro e w31 ⟨D, er31, p31, rfl, hr31, hf31, hj31⟩
    have HS31 := (show Hid _ from HS30.out.call hr31 hf31)
    have HJ31 := (show Hid _ from hj31)
    clear hr31 hf31 hj31 HX HDM HS30 HJ28
    obtain ⟨q0, q1, q2⟩ := HS31.out.reader
    by_cases h0 : er31 = 0
    · subst h0
      go_upto_region 37 with (fail)
      obtain ⟨ar, cr, rfl⟩ := own_slice HS31.out.rr
      obtain ⟨ak, ck, rfl⟩ := own_slice HS31.out.rk
      have HKS : Hid (∀ w', Fr (fun k => k = z) w31 w' → (fun w' => w'.cell? ⟨z + 3, 0, none⟩ = some (.int .i64 (N : Int)) ∧ w'.cell? ⟨z + 3, 1, none⟩ = some (.int .i64 (K : Int)) ∧ w'.cell? ⟨z + 3, 2, none⟩ = some (.int .i64 (P : Int)) ∧ w'.cell? ⟨z + 3, 3, none⟩ = some (.slice ar Rs.length cr) ∧ w'.cell? ⟨z + 3, 4, none⟩ = some (.slice ak Ks.length ck) ∧ w'.cell? ⟨z + 3, 5, none⟩ = some (.bool st) ∧ w'.cell? ⟨z + 3, 6, none⟩ = some (.slice none 0 0) ∧ w'.cell? ⟨z + 2, 0, none⟩ = some (.pointer (some ⟨z + 1, 0, none⟩)) ∧ w'.cell? ⟨z + 1, 1, none⟩ = some (.int .i64 (p31 : Int))) w') := fun w' f => by
        obtain ⟨g0, g1, g2, g3, g4, g5, g6⟩ := HS31.out.cells
        obtain ⟨r0, r1, r2⟩ := HS31.out.reader
        exact ⟨f.cell g0 (by omega), f.cell g1 (by omega), f.cell g2 (by omega), f.cell g3 (by omega), f.cell g4 (by omega), f.cell g5 (by omega), f.cell g6 (by omega), f.cell r0 (by omega), f.cell r2 (by omega)⟩
      have HZF : Hid (∀ j, w31.frozen? ⟨z, j, none⟩ = false) := fun j => by simp [World.frozen?, HS31.out.b0]
      have HZC : Hid (∀ j, w31.cell? ⟨z, j, none⟩ = zeroX[j]?) := fun j => by simp [World.cell?, HS31.out.b0]
      clear q0 q1 q2
      refine wp_region_held_drew (S := fun w' => w'.cell? ⟨z + 3, 0, none⟩ = some (.int .i64 (N : Int)) ∧ w'.cell? ⟨z + 3, 1, none⟩ = some (.int .i64 (K : Int)) ∧ w'.cell? ⟨z + 3, 2, none⟩ = some (.int .i64 (P : Int)) ∧ w'.cell? ⟨z + 3, 3, none⟩ = some (.slice ar Rs.length cr) ∧ w'.cell? ⟨z + 3, 4, none⟩ = some (.slice ak Ks.length ck) ∧ w'.cell? ⟨z + 3, 5, none⟩ = some (.bool st) ∧ w'.cell? ⟨z + 3, 6, none⟩ = some (.slice none 0 0) ∧ w'.cell? ⟨z + 2, 0, none⟩ = some (.pointer (some ⟨z + 1, 0, none⟩)) ∧ w'.cell? ⟨z + 1, 1, none⟩ = some (.int .i64 (p31 : Int))) (by kernel_rfl) (HKS.out _ (Fr.refl _ _).drew) (fun hHeld => ?_)
      refine wpAnyH_take (i := 0) (oi := _) (v := ?va0) rfl (by kernel_rfl) (by kernel_rfl) (by kernel_rfl) (fun _ _ _ h => h) (Or.inl ⟨by kernel_rfl, ?ha0⟩) (by assumption) ?_
      case ha0 => (intro w hSw; (try dsimp only at hSw); obtain ⟨s0, s1, s2, s3, s4, s5, s6, s7, s8⟩ := hSw; go_simp; all_goals (with_reducible rfl))
      (try simp only [Act.put, List.setIfInBounds_toArray, List.set_cons_zero, List.set_cons_succ])
      refine wpAnyH_take (i := 1) (oi := _) (v := ?va1) rfl (by kernel_rfl) (by kernel_rfl) (by kernel_rfl) (fun _ _ _ h => h) (Or.inl ⟨by kernel_rfl, ?ha1⟩) (by assumption) ?_
      case ha1 => (intro w hSw; (try dsimp only at hSw); obtain ⟨s0, s1, s2, s3, s4, s5, s6, s7, s8⟩ := hSw; go_simp; all_goals (with_reducible rfl))
      (try simp only [Act.put, List.setIfInBounds_toArray, List.set_cons_zero, List.set_cons_succ])
      refine wpAnyH_take (i := 2) (oi := _) (v := ?va2) rfl (by kernel_rfl) (by kernel_rfl) (by kernel_rfl) (fun _ _ _ h => h) (Or.inl ⟨by kernel_rfl, ?ha2⟩) (by assumption) ?_
      case ha2 => (intro w hSw; (try dsimp only at hSw); obtain ⟨s0, s1, s2, s3, s4, s5, s6, s7, s8⟩ := hSw; go_simp; all_goals (with_reducible rfl))
      (try simp only [Act.put, List.setIfInBounds_toArray, List.set_cons_zero, List.set_cons_succ])
      refine wpAnyH_take (i := 3) (oi := _) (v := ?va3) rfl (by kernel_rfl) (by kernel_rfl) (by kernel_rfl) (fun _ _ _ h => h) (Or.inl ⟨by kernel_rfl, ?ha3⟩) (by assumption) ?_
      case ha3 => (intro w hSw; (try dsimp only at hSw); obtain ⟨s0, s1, s2, s3, s4, s5, s6, s7, s8⟩ := hSw; go_simp; all_goals (with_reducible rfl))
      (try simp only [Act.put, List.setIfInBounds_toArray, List.set_cons_zero, List.set_cons_succ])
      refine wpAnyH_take (i := 4) (oi := _) (v := ?va4) rfl (by kernel_rfl) (by kernel_rfl) (by kernel_rfl) (fun _ _ _ h => h) (Or.inl ⟨by kernel_rfl, ?ha4⟩) (by assumption) ?_
      case ha4 => (intro w hSw; (try dsimp only at hSw); obtain ⟨s0, s1, s2, s3, s4, s5, s6, s7, s8⟩ := hSw; go_simp; all_goals (with_reducible rfl))
      (try simp only [Act.put, List.setIfInBounds_toArray, List.set_cons_zero, List.set_cons_succ])
      refine wpAnyH_take (i := 5) (oi := _) (v := ?va5) rfl (by kernel_rfl) (by kernel_rfl) (by kernel_rfl) (fun _ _ _ h => h) (Or.inl ⟨by kernel_rfl, ?ha5⟩) (by assumption) ?_
      case ha5 => (intro w hSw; (try dsimp only at hSw); obtain ⟨s0, s1, s2, s3, s4, s5, s6, s7, s8⟩ := hSw; go_simp; all_goals (with_reducible rfl))
      (try simp only [Act.put, List.setIfInBounds_toArray, List.set_cons_zero, List.set_cons_succ])
      refine wpAnyH_take (i := 6) (oi := _) (v := ?va6) rfl (by kernel_rfl) (by kernel_rfl) (by kernel_rfl) (fun _ _ _ h => h) (Or.inl ⟨by kernel_rfl, ?ha6⟩) (by assumption) ?_
      case ha6 => (intro w hSw; (try dsimp only at hSw); obtain ⟨s0, s1, s2, s3, s4, s5, s6, s7, s8⟩ := hSw; go_simp; all_goals (with_reducible rfl))
      (try simp only [Act.put, List.setIfInBounds_toArray, List.set_cons_zero, List.set_cons_succ])
      refine wpAnyH_take (i := 7) (oi := _) (v := ?va7) rfl (by kernel_rfl) (by kernel_rfl) (by kernel_rfl) (fun _ _ _ h => h) (Or.inl ⟨by kernel_rfl, ?ha7⟩) (by assumption) ?_
      case ha7 => (intro w hSw; (try dsimp only at hSw); obtain ⟨s0, s1, s2, s3, s4, s5, s6, s7, s8⟩ := hSw; go_simp; all_goals (with_reducible rfl))
      (try simp only [Act.put, List.setIfInBounds_toArray, List.set_cons_zero, List.set_cons_succ])
      refine wpAnyH_take (i := 8) (oi := _) (v := ?va8) rfl (by kernel_rfl) (by kernel_rfl) (by kernel_rfl) (fun _ _ _ h => h) (Or.inl ⟨by kernel_rfl, ?ha8⟩) (by assumption) ?_
      case ha8 => (intro w hSw; (try dsimp only at hSw); obtain ⟨s0, s1, s2, s3, s4, s5, s6, s7, s8⟩ := hSw; go_simp; all_goals (with_reducible rfl))
      (try simp only [Act.put, List.setIfInBounds_toArray, List.set_cons_zero, List.set_cons_succ])
      refine wpAnyH_take (i := 9) (oi := _) (v := ?va9) rfl (by kernel_rfl) (by kernel_rfl) (by kernel_rfl) (fun _ _ _ h => h) (Or.inl ⟨by kernel_rfl, ?ha9⟩) (by assumption) ?_
      case ha9 => (intro w hSw; (try dsimp only at hSw); obtain ⟨s0, s1, s2, s3, s4, s5, s6, s7, s8⟩ := hSw; go_simp; all_goals (with_reducible rfl))
      (try simp only [Act.put, List.setIfInBounds_toArray, List.set_cons_zero, List.set_cons_succ])
      have z0 : w31.cell? ⟨z, 0, none⟩ = some (.int .i64 0) := HZC.out 0
      have z1 : w31.cell? ⟨z, 1, none⟩ = some (.int .i64 0) := HZC.out 1
      have z2 : w31.cell? ⟨z, 2, none⟩ = some (.int .i64 0) := HZC.out 2
      have z3 : w31.cell? ⟨z, 3, none⟩ = some (.slice none 0 0) := HZC.out 3
      have z4 : w31.cell? ⟨z, 4, none⟩ = some (.slice none 0 0) := HZC.out 4
      have z5 : w31.cell? ⟨z, 5, none⟩ = some (.bool false) := HZC.out 5
      have z6 : w31.cell? ⟨z, 6, none⟩ = some (.slice none 0 0) := HZC.out 6
      have zf := HZF.out
      have HF32 : Hid (Fr (fun k => k = z) w31 ((((((((w31.setCell ⟨z, 0, none⟩ (.int .i64 (N : Int))).setCell ⟨z, 1, none⟩ (.int .i64 (K : Int))).setCell ⟨z, 2, none⟩ (.int .i64 (P : Int))).setCell ⟨z, 3, none⟩ (.slice ar Rs.length cr)).setCell ⟨z, 4, none⟩ (.slice ak Ks.length ck)).setCell ⟨z, 5, none⟩ (.bool st)).setCell ⟨z, 6, none⟩ (.slice none 0 0))).drew) := (fr7 _ _ _ _ _ _ _ _ _).drew
      refine wpAnyH_ready (rs := [10]) (by kernel_rfl) (by simp) ?_
      refine AllReadyH.cons (o := _) rfl (fun C hC => ?_) AllReadyH.nil
      go_simp
      refine hC.out _ _ (HKS.out _ HF32.out) (fun hHeld => ?_)
      clear hC C
      refine wpAnyH_ready (rs := [11]) (by kernel_rfl) (by simp) ?_
      refine AllReadyH.cons (o := _) rfl (fun C hC => ?_) AllReadyH.nil
      go_simp
      refine hC.out _ _ hHeld (fun hHeld => ?_)
      clear hC C
      refine wpAnyH_ready (rs := [12]) (by kernel_rfl) (by simp) ?_
      refine AllReadyH.cons (o := _) rfl (fun C hC => ?_) AllReadyH.nil
      go_simp
      refine hC.out _ _ hHeld (fun hHeld => ?_)
      clear hC C
      refine wpAnyH_ready (rs := [13]) (by kernel_rfl) (by simp) ?_
      refine AllReadyH.cons (o := _) rfl (fun C hC => ?_) AllReadyH.nil
      go_simp
      refine hC.out _ _ hHeld (fun hHeld => ?_)
      clear hC C
      refine wpAnyH_done (by kernel_rfl) ?_ _
      go_wp2_with fail
      have HB32 : Hid (((((((((w31.setCell ⟨z, 0, none⟩ (.int .i64 (N : Int))).setCell ⟨z, 1, none⟩ (.int .i64 (K : Int))).setCell ⟨z, 2, none⟩ (.int .i64 (P : Int))).setCell ⟨z, 3, none⟩ (.slice ar Rs.length cr)).setCell ⟨z, 4, none⟩ (.slice ak Ks.length ck)).setCell ⟨z, 5, none⟩ (.bool st)).setCell ⟨z, 6, none⟩ (.slice none 0 0)).drew).heap[z]? = some (.cells #[.int .i64 (N : Int), .int .i64 (K : Int), .int .i64 (P : Int), .slice ar Rs.length cr, .slice ak Ks.length ck, .bool st, .slice none 0 0] 27 (0, 0))) := blk7d (w := w31) (o := z) (t := 27) HS31.out.b0 _ _ _ _ _ _ _
      generalize ((((((((w31.setCell ⟨z, 0, none⟩ (.int .i64 (N : Int))).setCell ⟨z, 1, none⟩ (.int .i64 (K : Int))).setCell ⟨z, 2, none⟩ (.int .i64 (P : Int))).setCell ⟨z, 3, none⟩ (.slice ar Rs.length cr)).setCell ⟨z, 4, none⟩ (.slice ak Ks.length ck)).setCell ⟨z, 5, none⟩ (.bool st)).setCell ⟨z, 6, none⟩ (.slice none 0 0)).drew) = w32 at *
      refine bodyPost_ret (v := .tuple #[.agg #[.int .i64 (N : Int), .int .i64 (K : Int), .int .i64 (P : Int), .slice ar Rs.length cr, .slice ak Ks.length ck, .bool st, .slice none 0 0], .int .i64 (D : Int), .int .i64 (IntKind.i64.wrap ((p31 : Int) / 8)), .int .i64 0]) (by simp [results, Tryd.results17, go_sem, World.cell?, HB32.out]) rfl ?_
      rcases HJ31.out with ⟨_, _, _, _, a', h1, h2⟩ | ⟨h, _⟩
      · have hwp : IntKind.i64.wrap ((p31 : Int) / 8) = (a' : Int) := by
          have h3 := HS31.out.rd.q.le
          have h4 := HD.out.lim
          rw [h1, IntKind.wrap_i64]; omega
        rw [hwp, h2]
        have hb := HS31.out.b0
        have hz := HZ.out
        have hrr := row_kept HS31.out.rr HF32.out (fun k e e2 => row_off HS31.out.rr hb (by decide) (by rw [e, e2]))
        have hrk := row_kept HS31.out.rk HF32.out (fun k e e2 => row_off HS31.out.rk hb (by decide) (by rw [e, e2]))
        rw [hz] at hrr hrk
        exact ⟨HS31.out.fr.trans HF32.out (fun i hi e => by omega), _, _, rfl, hrr, hrk⟩
      · exact absurd rfl h
    · have he : ((er31 : Int) != 0) = true := by rw [bne_iff_ne]; omega
      have H0 : Hid (er31 ≠ 0) := h0
      clear h0
      go_upto_region 36 with (fail)
      have HZF : Hid (∀ j, w31.frozen? ⟨z, j, none⟩ = false) := fun j => by simp [World.frozen?, HS31.out.b0]
      have HZC : Hid (∀ j, w31.cell? ⟨z, j, none⟩ = zeroX[j]?) := fun j => by simp [World.cell?, HS31.out.b0]
      have HKS : Hid (∀ w', Fr (fun k => k = z) w31 w' → (fun w' => w'.cell? ⟨z + 2, 1, none⟩ = some (.int .i64 (er31 : Int))) w') := fun w' f => by
        obtain ⟨r0, r1, r2⟩ := HS31.out.reader
        exact f.cell r1 (by omega)
      clear q0 q1 q2
      refine wp_region_held_drew (S := fun w' => w'.cell? ⟨z + 2, 1, none⟩ = some (.int .i64 (er31 : Int))) (by kernel_rfl) (HKS.out _ (Fr.refl _ _).drew) (fun hHeld => ?_)
      refine wpAnyH_take (i := 0) (oi := _) (v := ?vb0) rfl (by kernel_rfl) (by kernel_rfl) (by kernel_rfl) (fun _ _ _ h => h) (Or.inl ⟨by kernel_rfl, ?hb0⟩) (by assumption) ?_
      case hb0 => (intro w hSw; (try dsimp only at hSw); have s0 := hSw; go_simp; all_goals (with_reducible rfl))
      (try simp only [Act.put, List.setIfInBounds_toArray, List.set_cons_zero, List.set_cons_succ])
      refine wpAnyH_take (i := 1) (oi := _) (v := ?vb1) rfl (by kernel_rfl) (by kernel_rfl) (by kernel_rfl) (fun _ _ _ h => h) (Or.inl ⟨by kernel_rfl, ?hb1⟩) (by assumption) ?_
      case hb1 => (intro w hSw; (try dsimp only at hSw); have s0 := hSw; go_simp; all_goals (with_reducible rfl))
      (try simp only [Act.put, List.setIfInBounds_toArray, List.set_cons_zero, List.set_cons_succ])
      refine wpAnyH_take (i := 2) (oi := _) (v := ?vb2) rfl (by kernel_rfl) (by kernel_rfl) (by kernel_rfl) (fun _ _ _ h => h) (Or.inl ⟨by kernel_rfl, ?hb2⟩) (by assumption) ?_
      case hb2 => (intro w hSw; (try dsimp only at hSw); have s0 := hSw; go_simp; all_goals (with_reducible rfl))
      (try simp only [Act.put, List.setIfInBounds_toArray, List.set_cons_zero, List.set_cons_succ])
      refine wpAnyH_take (i := 3) (oi := _) (v := ?vb3) rfl (by kernel_rfl) (by kernel_rfl) (by kernel_rfl) (fun _ _ _ h => h) (Or.inl ⟨by kernel_rfl, ?hb3⟩) (by assumption) ?_
      case hb3 => (intro w hSw; (try dsimp only at hSw); have s0 := hSw; go_simp; all_goals (with_reducible rfl))
      (try simp only [Act.put, List.setIfInBounds_toArray, List.set_cons_zero, List.set_cons_succ])
      refine wpAnyH_take (i := 4) (oi := _) (v := ?vb4) rfl (by kernel_rfl) (by kernel_rfl) (by kernel_rfl) (fun _ _ _ h => h) (Or.inl ⟨by kernel_rfl, ?hb4⟩) (by assumption) ?_
      case hb4 => (intro w hSw; (try dsimp only at hSw); have s0 := hSw; go_simp; all_goals (with_reducible rfl))
      (try simp only [Act.put, List.setIfInBounds_toArray, List.set_cons_zero, List.set_cons_succ])
      have z0 : w31.cell? ⟨z, 0, none⟩ = some (.int .i64 0) := HZC.out 0
      have z1 : w31.cell? ⟨z, 1, none⟩ = some (.int .i64 0) := HZC.out 1
      have z2 : w31.cell? ⟨z, 2, none⟩ = some (.int .i64 0) := HZC.out 2
      have z3 : w31.cell? ⟨z, 3, none⟩ = some (.slice none 0 0) := HZC.out 3
      have z4 : w31.cell? ⟨z, 4, none⟩ = some (.slice none 0 0) := HZC.out 4
      have z5 : w31.cell? ⟨z, 5, none⟩ = some (.bool false) := HZC.out 5
      have z6 : w31.cell? ⟨z, 6, none⟩ = some (.slice none 0 0) := HZC.out 6
      have zf := HZF.out
      have HF32 : Hid (Fr (fun k => k = z) w31 ((((((((w31.setCell ⟨z, 0, none⟩ (.int .i64 0)).setCell ⟨z, 1, none⟩ (.int .i64 0)).setCell ⟨z, 2, none⟩ (.int .i64 0)).setCell ⟨z, 3, none⟩ (.slice none 0 0)).setCell ⟨z, 4, none⟩ (.slice none 0 0)).setCell ⟨z, 5, none⟩ (.bool false)).setCell ⟨z, 6, none⟩ (.slice none 0 0))).drew) := (fr7 _ _ _ _ _ _ _ _ _).drew
      refine wpAnyH_ready (rs := [5]) (by kernel_rfl) (by simp) ?_
      refine AllReadyH.cons (o := _) rfl (fun C hC => ?_) AllReadyH.nil
      go_simp
      refine hC.out _ _ (HKS.out _ HF32.out) (fun hHeld => ?_)
      clear hC C
      refine wpAnyH_ready (rs := [6]) (by kernel_rfl) (by simp) ?_
      refine AllReadyH.cons (o := _) rfl (fun C hC => ?_) AllReadyH.nil
      go_simp
      refine hC.out _ _ hHeld (fun hHeld => ?_)
      clear hC C
      refine wpAnyH_ready (rs := [7]) (by kernel_rfl) (by simp) ?_
      refine AllReadyH.cons (o := _) rfl (fun C hC => ?_) AllReadyH.nil
      go_simp
      refine hC.out _ _ hHeld (fun hHeld => ?_)
      clear hC C
      refine wpAnyH_ready (rs := [8]) (by kernel_rfl) (by simp) ?_
      refine AllReadyH.cons (o := _) rfl (fun C hC => ?_) AllReadyH.nil
      go_simp
      refine hC.out _ _ hHeld (fun hHeld => ?_)
      clear hC C
      refine wpAnyH_done (by kernel_rfl) ?_ _
      go_wp2_with fail
      have HB32 : Hid (((((((((w31.setCell ⟨z, 0, none⟩ (.int .i64 0)).setCell ⟨z, 1, none⟩ (.int .i64 0)).setCell ⟨z, 2, none⟩ (.int .i64 0)).setCell ⟨z, 3, none⟩ (.slice none 0 0)).setCell ⟨z, 4, none⟩ (.slice none 0 0)).setCell ⟨z, 5, none⟩ (.bool false)).setCell ⟨z, 6, none⟩ (.slice none 0 0)).drew).heap[z]? = some (.cells #[.int .i64 0, .int .i64 0, .int .i64 0, .slice none 0 0, .slice none 0 0, .bool false, .slice none 0 0] 27 (0, 0))) := blk7d (w := w31) (o := z) (t := 27) HS31.out.b0 _ _ _ _ _ _ _
      generalize ((((((((w31.setCell ⟨z, 0, none⟩ (.int .i64 0)).setCell ⟨z, 1, none⟩ (.int .i64 0)).setCell ⟨z, 2, none⟩ (.int .i64 0)).setCell ⟨z, 3, none⟩ (.slice none 0 0)).setCell ⟨z, 4, none⟩ (.slice none 0 0)).setCell ⟨z, 5, none⟩ (.bool false)).setCell ⟨z, 6, none⟩ (.slice none 0 0)).drew) = w32 at *
      refine bodyPost_ret (v := .tuple #[.agg #[.int .i64 0, .int .i64 0, .int .i64 0, .slice none 0 0, .slice none 0 0, .bool false, .slice none 0 0], .int .i64 0, .int .i64 0, .int .i64 (er31 : Int)]) (by simp [results, Tryd.results17, go_sem, World.cell?, HB32.out]) rfl ?_
      rcases HJ31.out with ⟨h, _⟩ | ⟨_, _, h2⟩
      · exact absurd h H0.out
      · rw [h2]
        exact ⟨HS31.out.fr.trans HF32.out (fun i hi e => by have := HZ.out; omega), _, _, rfl, own_nil _ _ _, own_nil _ _ _⟩
  · have HR : Hid (decS l x = (163, default)) := by show _ = _; unfold decS; rw [if_neg hx]
    rw [HR.out]
    have HF1 : Hid (Fr (fun _ => False) w (w.alloc (.cells #[.int .i64 0, .int .i64 0, .int .i64 0, .slice none 0 0, .slice none 0 0, .bool false, .slice none 0 0] 27))) := (Fr.refl _ w).alloc _
    have HB1 : Hid ((w.alloc (.cells #[.int .i64 0, .int .i64 0, .int .i64 0, .slice none 0 0, .slice none 0 0, .bool false, .slice none 0 0] 27)).heap[w.heap.size]? = some (.cells #[.int .i64 0, .int .i64 0, .int .i64 0, .slice none 0 0, .slice none 0 0, .bool false, .slice none 0 0] 27 (0, 0))) := heap_alloc_new w _
    clear hz
    by_cases hx0 : x < 0
    · have d1 : decide (x < 0) = true := decide_eq_true hx0
      clear hx hx0
      go_enter Tryd.func17, Tryd.ntmps17
      go_wp2_with fail
      generalize (w.alloc (.cells #[.int .i64 0, .int .i64 0, .int .i64 0, .slice none 0 0, .slice none 0 0, .bool false, .slice none 0 0] 27)) = w1 at *
      refine bodyPost_ret (v := .tuple #[.agg #[.int .i64 0, .int .i64 0, .int .i64 0, .slice none 0 0, .slice none 0 0, .bool false, .slice none 0 0], .int .i64 0, .int .i64 0, .int .i64 163]) (by simp [results, Tryd.results17, go_sem, World.cell?, HB1.out]) rfl ?_
      exact ⟨HF1.out, _, _, rfl, own_nil _ _ _, own_nil _ _ _⟩
    · have d1 : decide (x < 0) = false := decide_eq_false hx0
      have d2 : decide ((l.length : Int) < x) = true := decide_eq_true (by omega)
      clear hx hx0
      go_enter Tryd.func17, Tryd.ntmps17
      go_wp2_with fail
      generalize (w.alloc (.cells #[.int .i64 0, .int .i64 0, .int .i64 0, .slice none 0 0, .slice none 0 0, .bool false, .slice none 0 0] 27)) = w1 at *
      refine bodyPost_ret (v := .tuple #[.agg #[.int .i64 0, .int .i64 0, .int .i64 0, .slice none 0 0, .slice none 0 0, .bool false, .slice none 0 0], .int .i64 0, .int .i64 0, .int .i64 163]) (by simp [results, Tryd.results17, go_sem, World.cell?, HB1.out]) rfl ?_
      exact ⟨HF1.out, _, _, rfl, own_nil _ _ _, own_nil _ _ _⟩

end Go.Proofs.YtamonbkhpbdojaaDoor

namespace Go.Proofs.YtamonbkhpbdojaaDoor
set_option maxRecDepth 100000
open Go.RowKit

theorem rdecode_law (ao : Option Addr) (cap : Nat) (l : List Nat) (x : Int) (w : World) (h : DB w ao cap l) (er : Nat) (s : Seg) (d e : Nat) (hR : decS l x = (er, s, d, e)) :
    Calls Tryd.prog 17 #[.slice ao l.length cap, .int .i64 x] w fun en w' => Fr (fun _ => False) w w' ∧ ∃ a1 c1 a2 c2, en = .returned (.tuple #[.agg #[.int .i64 (s.num : Int), .int .i64 (s.kind : Int), .int .i64 (s.page : Int), .slice a1 s.refs.length c1, .slice a2 s.keep.length c2, .bool s.stay, .slice none 0 0], .int .i64 (d : Int), .int .i64 (e : Int), .int .i64 (er : Int)]) ∧ w'.ownsRow w.heap.size 3 1 (.slice a1 s.refs.length c1) s.refs.length (intCells s.refs) ∧ w'.ownsRow w.heap.size 4 1 (.slice a2 s.keep.length c2) s.keep.length (boolCells s.keep) := by
  refine (rdecode_any ao cap l x w h).mono ?_
  rw [hR]
  rintro en w' ⟨hf, vr, vk, rfl, hvr, hvk⟩
  obtain ⟨a1, c1, rfl⟩ := own_slice hvr
  obtain ⟨a2, c2, rfl⟩ := own_slice hvk
  exact ⟨hf, a1, c1, a2, c2, rfl, hvr, hvk⟩

theorem own_lim {w : World} {b e n : Nat} {v : Value} {xs : List Value} (h : w.ownsRow b e 1 v n xs) : xs.length = n ∧ n ≤ 9223372036854775807 := by
  refine ⟨by have := h.1; omega, ?_⟩
  rcases h.2 with ⟨_, rfl⟩ | ⟨g, cap, cur, _, _, _, h1, h2, _⟩
  · omega
  · unfold maxLen at h2; omega
theorem RowS.of_int {w : World} {b : Nat} {v : Value} {l : List Nat} (h : w.ownsRow b 3 1 v l.length (intCells l)) : RowS w v (iCells (l.map fun (n : Nat) => (n : Int))) := RowS.of_ints h (own_lim h).2
theorem RowS.of_bool {w : World} {b : Nat} {v : Value} {l : List Bool} (h : w.ownsRow b 4 1 v l.length (boolCells l)) : RowS w v (boolCells l) := RowS.of_bools h (own_lim h).2

/-- The bytes that are lent, as the reader sees them. -/
theorem lent_db {w : World} {g base : Nat} {l : List Nat} (hl : l.length ≤ 20000) (hb : Byts l) (h : w.ownsRow base 5 1 (.slice (some ⟨g, 0, none⟩) (l.length + 7) (l.length + 7)) (l.length + 7) (byteCells (marks l 7))) : DB w (some ⟨g, 0, none⟩) (l.length + 7) l := by
  have h1 := row_shrink (k := l.length) h (by omega)
  rw [byteCells_take, marks_front] at h1
  obtain ⟨ao, cap, e, _, hc⟩ := SeenAt.of_row (l := l) h1 (by omega)
  simp only [Value.slice.injEq, true_and] at e
  refine ⟨fun hx => ?_, (by omega), hb, (fun e => by cases e), (by omega), (by unfold maxLen; omega), (fun ad e _ => ⟨_, _, (Option.some.inj e).symm⟩)⟩
  obtain ⟨b, off, e2, hcc⟩ := hc hx
  exact ⟨b, off, by rw [e.1]; exact e2, hcc⟩

theorem rowNil (w : World) : RowS w (.slice none 0 0) (byteCells []) := ⟨none, 0, rfl, Nat.zero_le _, fun h => absurd rfl h⟩

set_option maxHeartbeats 2000000 in
theorem reads_any (ao : Option Addr) (n cap : Nat) (A : Nat → Plc) (w : World) (h : PlcsAt w ao n A) (hr : RulesAt w) :
    Calls Tryd.prog 4 #[.slice ao n cap] w fun e w' => e = .returned (.bool true) ∧ Fr (fun _ => False) w w' := by
  have HRU : Hid (RulesAt w) := hr
  have hlen := h.len
  have HP : Hid (PlcsAt w ao n A) := h
  have HWK : Hid (∀ w', Fr (fun _ => False) w w' → Calls Tryd.prog 14 #[] w' fun e w'' => e = .returned (.bool true) ∧ Fr (fun _ => False) w' w'') := fun w' f => wakes_any w' (HRU.out.kept f (fun h => h))
  clear h hr
  go_enter Tryd.func4, Tryd.ntmps4
  go_wp2_with fail
  go_loopw [3, 4, 5, 6, 7, 8, 9, 10, 11, 12] (fun i _ _ _ _ _ _ _ _ _ wr => ∃ (k : Nat), k ≤ n ∧ k ≤ 10 ∧ i = .int .i64 (k : Int) ∧ Hid (Fr (fun _ => False) w wr)) (fun i _ _ _ _ _ _ _ _ _ _ => (10 - (intOf i).toNat))
  case atStart => exact ⟨0, by omega, by omega, rfl, Fr.refl _ _⟩
  case round =>
    obtain ⟨k, hk, hk10, rfl, HFR⟩ := hrel
    by_cases hlt : k < n
    · have hd : decide ((k : Int) < (n : Int)) = true := decide_eq_true (by omega)
      by_cases hl10 : k < 10
      · have hd2 : decide ((k : Int) < 10) = true := decide_eq_true (by omega)
        obtain ⟨b, off, rfl, hc⟩ := HP.out.cells (by omega)
        have HC : Hid (∀ w', Fr (fun _ => False) w w' → w'.cell? ⟨b, off + k * 2, none⟩ = some (.slice (A k).ao (A k).l.length (A k).cap) ∧ w'.cell? ⟨b, off + k * 2 + 1, none⟩ = some (.int .i64 (A k).x)) := fun w' f => ⟨f.cell (hc k hlt).1 (fun h => h), f.cell (hc k hlt).2 (fun h => h)⟩
        have HDB : Hid (∀ w', Fr (fun _ => False) w w' → DB0 w' (A k).ao (A k).cap (A k).l) := fun w' f => (HP.out.ok k hlt).kept f
        clear hc
        generalize A k = y at HC HDB
        obtain ⟨fo, fc, F, x⟩ := y
        try simp only at HC HDB
        obtain ⟨q0, q1⟩ := HC.out _ HFR.out
        by_cases hF : 20000 < F.length
        · have hd3 : decide ((20000 : Int) < (F.length : Int)) = true := decide_eq_true (by omega)
          go_wp2_with fail
          go_roundw
          case rel => exact ⟨k + 1, by omega, by omega, congrArg (Value.int .i64) (by omega), HFR.out⟩
          case measure => simp [intOf]; omega
        · have hd3 : decide ((20000 : Int) < (F.length : Int)) = false := decide_eq_false (by omega)
          have HFL : Hid (F.length ≤ 20000) := by show _ ≤ _; omega
          obtain ⟨er, s, d, e, hR⟩ : ∃ er s d e, decS F x = (er, s, d, e) := ⟨_, _, _, _, rfl⟩
          have HR : Hid (decS F x = (er, s, d, e)) := hR
          clear hR
          have HLD : Hid (Calls Tryd.prog 15 #[.slice fo F.length fc] wr fun en w' => en = .returned (.slice (some ⟨wr.heap.size, 0, none⟩) F.length (F.length + 7)) ∧ w'.ownsRow wr.heap.size 5 1 (.slice (some ⟨wr.heap.size, 0, none⟩) (F.length + 7) (F.length + 7)) (F.length + 7) (byteCells (marks F 7)) ∧ Below wr.heap.size wr w') := by
            have hdb := HDB.out wr HFR.out
            refine lend_any fo fc F wr (by omega) (fun e => ⟨?_, hdb.nil e⟩) hdb.seen
            rcases Classical.em (F = []) with h | h
            · exact h
            · obtain ⟨b', off', e2, _⟩ := hdb.seen h
              rw [e] at e2; cases e2
          go_wp2_with fail
          refine HLD.out.mono ?_
          rintro en w2 ⟨rfl, hrow2, hbl2⟩
          have HF2 : Hid (Fr (fun _ => False) w w2) := HFR.out.trans (Fr.of_below hbl2 _) (fun _ _ h => h)
          have HRW2 : Hid (w2.ownsRow wr.heap.size 5 1 (.slice (some ⟨wr.heap.size, 0, none⟩) (F.length + 7) (F.length + 7)) (F.length + 7) (byteCells (marks F 7))) := hrow2
          have HBB : Hid (Byts F) := (HDB.out w (Fr.refl _ _)).byt
          have HG : Hid (w.heap.size ≤ wr.heap.size) := HFR.out.size
          obtain ⟨g, hg⟩ : ∃ g, g = wr.heap.size := ⟨_, rfl⟩
          rw [← hg] at HRW2 HG ⊢
          clear hrow2 hbl2 HLD hg
          have HGL : Hid (g < w2.heap.size) := (HRW2.out.lt g rfl).2
          obtain ⟨m, hm⟩ : ∃ m, m = F.length + 7 := ⟨_, rfl⟩
          have HM : Hid (m = F.length + 7) := hm
          rw [← hm]
          clear hm
          have HDE : Hid (Calls Tryd.prog 16 #[.slice (some ⟨g, 0, none⟩) F.length m, .int .i64 x] w2 fun en w'' => Fr (fun _ => False) w2 w'' ∧ ∃ a1 c1 a2 c2, en = .returned (.tuple #[.agg #[.int .i64 (s.num : Int), .int .i64 (s.kind : Int), .int .i64 (s.page : Int), .slice a1 s.refs.length c1, .slice a2 s.keep.length c2, .bool s.stay, .slice none 0 0], .int .i64 (d : Int), .int .i64 (e : Int), .int .i64 (er : Int)]) ∧ w''.ownsRow w2.heap.size 3 1 (.slice a1 s.refs.length c1) s.refs.length (intCells s.refs) ∧ w''.ownsRow w2.heap.size 4 1 (.slice a2 s.keep.length c2) s.keep.length (boolCells s.keep)) := by
            rw [HM.out]
            exact decode_law (some ⟨g, 0, none⟩) (F.length + 7) F x w2 (lent_db HFL.out HBB.out HRW2.out) (HRU.out.kept HF2.out (fun h => h)) er s d e HR.out
          obtain ⟨q0, q1⟩ := HC.out _ HF2.out
          go_wp2_with fail
          refine HDE.out.mono ?_
          rintro en w3 ⟨hf3, a1, c1, a2, c2, rfl, hr3, hk3⟩
          have HF3 : Hid (Fr (fun _ => False) w w3) := HF2.out.trans hf3 (fun _ _ h => h)
          have HRS3 : Hid (w3.ownsRow 0 3 1 (.slice a1 s.refs.length c1) s.refs.length (intCells s.refs) ∧ w3.ownsRow 0 4 1 (.slice a2 s.keep.length c2) s.keep.length (boolCells s.keep)) := ⟨ownsRow_base hr3 (fun _ _ => Nat.zero_le _), ownsRow_base hk3 (fun _ _ => Nat.zero_le _)⟩
          have HRW3 : Hid (w3.ownsRow g 5 1 (.slice (some ⟨g, 0, none⟩) (F.length + 7) (F.length + 7)) (F.length + 7) (byteCells (marks F 7))) := row_kept HRW2.out hf3 (fun _ _ h => h)
          clear hf3 hr3 hk3 HDE HRW2 HF2 q0 q1
          go_upto_region 7 with (fail)
          obtain ⟨w4, hw4⟩ : ∃ w4, w4 = w3.alloc (.cells #[.int .i64 (s.num : Int), .int .i64 (s.kind : Int), .int .i64 (s.page : Int), .slice a1 s.refs.length c1, .slice a2 s.keep.length c2, .bool s.stay, .slice none 0 0] 27) := ⟨_, rfl⟩
          have HB4 : Hid (w4.heap[w3.heap.size]? = some (.cells #[.int .i64 (s.num : Int), .int .i64 (s.kind : Int), .int .i64 (s.page : Int), .slice a1 s.refs.length c1, .slice a2 s.keep.length c2, .bool s.stay, .slice none 0 0] 27 (0, 0))) := by show _ = _; rw [hw4]; exact heap_alloc_new _ _
          have HF34 : Hid (Fr (fun _ => False) w3 w4) := by show Fr _ _ _; rw [hw4]; exact (Fr.refl _ _).alloc _
          rw [← hw4]
          clear hw4
          generalize w3.heap.size = sb at *
          have HF4 : Hid (Fr (fun _ => False) w w4) := HF3.out.trans HF34.out (fun _ _ h => h)
          have HKC : Hid (∀ w', Fr (fun _ => False) w4 w' → w'.cell? ⟨b, off + k * 2, none⟩ = some (.slice fo F.length fc) ∧ w'.cell? ⟨b, off + k * 2 + 1, none⟩ = some (.int .i64 x)) := fun w' f => HC.out w' (HF4.out.trans f (fun _ _ h => h))
          have HDR : Hid (∀ w', Fr (fun _ => False) w4 w' → Calls Tryd.prog 17 #[.slice fo F.length fc, .int .i64 x] w' fun en w'' => Fr (fun _ => False) w' w'' ∧ ∃ a1 c1 a2 c2, en = .returned (.tuple #[.agg #[.int .i64 (s.num : Int), .int .i64 (s.kind : Int), .int .i64 (s.page : Int), .slice a1 s.refs.length c1, .slice a2 s.keep.length c2, .bool s.stay, .slice none 0 0], .int .i64 (d : Int), .int .i64 (e : Int), .int .i64 (er : Int)]) ∧ w''.ownsRow w'.heap.size 3 1 (.slice a1 s.refs.length c1) s.refs.length (intCells s.refs) ∧ w''.ownsRow w'.heap.size 4 1 (.slice a2 s.keep.length c2) s.keep.length (boolCells s.keep)) := fun w' f =>
            rdecode_law fo fc F x w' ((HDB.out w' (HF4.out.trans f (fun _ _ h => h))).db (by have := HFL.out; omega)) er s d e HR.out
          clear HF3
          go_cut [9, 10, 11, 12] from 48 to 63 (fun u9 u10 u11 u12 wc => ∃ tb b1 d1 b2 d2, u9 = .pointer (some ⟨tb, 0, none⟩) ∧ u10 = .int .i64 (d : Int) ∧ u11 = .int .i64 (e : Int) ∧ u12 = .int .i64 (er : Int) ∧ wc.heap[tb]? = some (.cells #[.int .i64 (s.num : Int), .int .i64 (s.kind : Int), .int .i64 (s.page : Int), .slice b1 s.refs.length d1, .slice b2 s.keep.length d2, .bool s.stay, .slice none 0 0] 27 (0, 0)) ∧ wc.ownsRow w4.heap.size 3 1 (.slice b1 s.refs.length d1) s.refs.length (intCells s.refs) ∧ wc.ownsRow w4.heap.size 4 1 (.slice b2 s.keep.length d2) s.keep.length (boolCells s.keep) ∧ Fr (fun _ => False) w4 wc)
          case first =>
            go_region_held3 (fun w' => w'.cell? ⟨b, off + k * 2, none⟩ = some (.slice fo F.length fc) ∧ w'.cell? ⟨b, off + k * 2 + 1, none⟩ = some (.int .i64 x)) (exact HKC.out _ (by repeat (first | with_reducible exact Fr.refl _ _ | with_reducible refine Fr.setCell ?_ (fun hh => absurd hh (Nat.not_lt.2 (Nat.le_refl _))) _ | with_reducible refine Fr.drew ?_ | with_reducible refine Fr.alloc ?_ _ | (with_reducible refine Fr.trans ?_ hf5 (fun _ _ h => h))))) ((go_at_call 17; refine (HDR.out _ (by repeat (first | with_reducible exact Fr.refl _ _ | with_reducible refine Fr.drew ?_ | with_reducible refine Fr.alloc ?_ _))).mono ?_; rintro en w5 ⟨hf5, b1, d1, b2, d2, rfl, hr5, hk5⟩; (have hc5 := hf5.cells); (have hz5 := hf5.frozens); (have hn5 := hf5.size); (try have ku1 : w4.heap.size < w5.heap.size := by simp at hn5; omega)))
            · go_wp2_with fail
              go_meet
              go_light
              exact ⟨_, b1, d1, b2, d2, rfl, rfl, rfl, rfl, heap_alloc_new _ _, row_kept hr5 ((Fr.refl (fun _ => False) _).alloc _) (fun _ _ h => h), row_kept hk5 ((Fr.refl (fun _ => False) _).alloc _) (fun _ _ h => h), ((Fr.refl _ _).drew.trans hf5 (fun _ _ h => h)).alloc _⟩
            · go_wp2_with fail
              go_meet
              go_light
              have hsz : (w4.alloc (.cells #[.int .i64 0, .int .i64 0, .int .i64 0, .slice none 0 0, .slice none 0 0, .bool false, .slice none 0 0] 27)).drew.heap.size = w4.heap.size + 1 := World.size_alloc _ _
              exact ⟨_, b1, d1, b2, d2, rfl, rfl, rfl, rfl, blk7 (blkOld hf5 (heap_alloc_new w4.drew _)) _ _ _ _ _ _ _, ownsRow_base (row_kept hr5 (fr7 _ _ _ _ _ _ _ _ _) (fun k e e2 => by have := (hr5.lt k e).1; omega)) (fun k e => by have := (hr5.lt k e).1; omega), ownsRow_base (row_kept hk5 (fr7 _ _ _ _ _ _ _ _ _) (fun k e e2 => by have := (hk5.lt k e).1; omega)) (fun k e => by have := (hk5.lt k e).1; omega), Fr.fresh (((Fr.refl _ _).drew.alloc _).trans hf5 (fun _ _ h => h)) (fr7 _ _ _ _ _ _ _ _ _) (fun k e => by omega)⟩
          case rest =>
            obtain ⟨tb, b1, d1, b2, d2, rfl, rfl, rfl, rfl, hb, hr, hk2, hf⟩ := hcut
            have HFC : Hid (Fr (fun _ => False) w wc) := HF4.out.trans hf (fun _ _ h => h)
            have f3c : Fr (fun _ => False) w3 wc := HF34.out.trans hf (fun _ _ h => h)
            have HRC : Hid (wc.ownsRow g 5 1 (.slice (some ⟨g, 0, none⟩) (F.length + 7) (F.length + 7)) (F.length + 7) (byteCells (marks F 7))) := row_kept HRW3.out f3c (fun _ _ h => h)
            have HSC : Hid (wc.ownsRow 0 3 1 (.slice a1 s.refs.length c1) s.refs.length (intCells s.refs) ∧ wc.ownsRow 0 4 1 (.slice a2 s.keep.length c2) s.keep.length (boolCells s.keep)) := ⟨row_kept HRS3.out.1 f3c (fun _ _ h => h), row_kept HRS3.out.2 f3c (fun _ _ h => h)⟩
            have HTC : Hid (wc.ownsRow 0 3 1 (.slice b1 s.refs.length d1) s.refs.length (intCells s.refs) ∧ wc.ownsRow 0 4 1 (.slice b2 s.keep.length d2) s.keep.length (boolCells s.keep)) := ⟨ownsRow_base hr (fun _ _ => Nat.zero_le _), ownsRow_base hk2 (fun _ _ => Nat.zero_le _)⟩
            have HBS : Hid (wc.heap[sb]? = some (.cells #[.int .i64 (s.num : Int), .int .i64 (s.kind : Int), .int .i64 (s.page : Int), .slice a1 s.refs.length c1, .slice a2 s.keep.length c2, .bool s.stay, .slice none 0 0] 27 (0, 0))) := blkOld hf HB4.out
            have HBT : Hid (wc.heap[tb]? = some (.cells #[.int .i64 (s.num : Int), .int .i64 (s.kind : Int), .int .i64 (s.page : Int), .slice b1 s.refs.length d1, .slice b2 s.keep.length d2, .bool s.stay, .slice none 0 0] 27 (0, 0))) := hb
            have HBK : Hid (Calls Tryd.prog 18 #[.slice (some ⟨g, 0, none⟩) F.length m, .slice fo F.length fc] wc fun e w' => e = .returned (.bool true) ∧ Fr (fun k => k = g) wc w') := by
              rw [HM.out]
              exact back_kit g g (.slice fo F.length fc) F wc (by have := HFL.out; omega) HRC.out ⟨fo, fc, rfl, by have := HFL.out; omega, (HDB.out wc HFC.out).seen⟩
            obtain ⟨q0, q1⟩ := HC.out _ HFC.out
            clear hb hr hk2 hf f3c HB4 HF34 HF4 HRS3 HRW3 HKC HDR
            go_wp2_with fail
            refine HBK.out.mono ?_
            rintro en w6 ⟨rfl, hf6⟩
            have hgs : ∀ (v : Value) (bb ee nn : Nat) (xs : List Value), wc.ownsRow bb ee 1 v nn xs → ee ≠ 5 → w6.ownsRow bb ee 1 v nn xs := fun v bb ee nn xs h hne => row_kept h hf6 (fun kk e1 e2 => row_apart h HRC.out hne kk e1 (by rw [e2]; rfl))
            have hb6 : ∀ (o : Nat) (cs : Array Value), wc.heap[o]? = some (.cells cs 27 (0, 0)) → w6.heap[o]? = some (.cells cs 27 (0, 0)) := fun o cs h => by
              rw [hf6.block o (lt_of_block h) (fun e => row_off HRC.out h (by decide) (by rw [e]; rfl))]; exact h
            have HS6 : Hid (RowS w6 (.slice a1 s.refs.length c1) (iCells (s.refs.map fun (n : Nat) => (n : Int))) ∧ RowS w6 (.slice a2 s.keep.length c2) (boolCells s.keep)) := ⟨RowS.of_int (hgs _ _ _ _ _ HSC.out.1 (by decide)), RowS.of_bool (hgs _ _ _ _ _ HSC.out.2 (by decide))⟩
            have HT6 : Hid (RowS w6 (.slice b1 s.refs.length d1) (iCells (s.refs.map fun (n : Nat) => (n : Int))) ∧ RowS w6 (.slice b2 s.keep.length d2) (boolCells s.keep)) := ⟨RowS.of_int (hgs _ _ _ _ _ HTC.out.1 (by decide)), RowS.of_bool (hgs _ _ _ _ _ HTC.out.2 (by decide))⟩
            have HBS6 : Hid (w6.heap[sb]? = some (.cells #[.int .i64 (s.num : Int), .int .i64 (s.kind : Int), .int .i64 (s.page : Int), .slice a1 s.refs.length c1, .slice a2 s.keep.length c2, .bool s.stay, .slice none 0 0] 27 (0, 0))) := hb6 _ _ HBS.out
            have HBT6 : Hid (w6.heap[tb]? = some (.cells #[.int .i64 (s.num : Int), .int .i64 (s.kind : Int), .int .i64 (s.page : Int), .slice b1 s.refs.length d1, .slice b2 s.keep.length d2, .bool s.stay, .slice none 0 0] 27 (0, 0))) := hb6 _ _ HBT.out
            have HF6 : Hid (Fr (fun _ => False) w w6) := HFC.out.fresh hf6 (fun k e => by have := HG.out; omega)
            clear hgs hb6 hf6 HBK HSC HTC HBS HBT HRC HFC q0 q1
            have s0 : w6.cell? ⟨sb, 0, none⟩ = some (.int .i64 (s.num : Int)) := by simp [World.cell?, HBS6.out]
            have s1 : w6.cell? ⟨sb, 1, none⟩ = some (.int .i64 (s.kind : Int)) := by simp [World.cell?, HBS6.out]
            have s2 : w6.cell? ⟨sb, 2, none⟩ = some (.int .i64 (s.page : Int)) := by simp [World.cell?, HBS6.out]
            have s3 : w6.cell? ⟨sb, 3, none⟩ = some (.slice a1 s.refs.length c1) := by simp [World.cell?, HBS6.out]
            have s4 : w6.cell? ⟨sb, 4, none⟩ = some (.slice a2 s.keep.length c2) := by simp [World.cell?, HBS6.out]
            have s5 : w6.cell? ⟨sb, 5, none⟩ = some (.bool s.stay) := by simp [World.cell?, HBS6.out]
            have s6 : w6.cell? ⟨sb, 6, none⟩ = some (.slice none 0 0) := by simp [World.cell?, HBS6.out]
            have t0 : w6.cell? ⟨tb, 0, none⟩ = some (.int .i64 (s.num : Int)) := by simp [World.cell?, HBT6.out]
            have t1 : w6.cell? ⟨tb, 1, none⟩ = some (.int .i64 (s.kind : Int)) := by simp [World.cell?, HBT6.out]
            have t2 : w6.cell? ⟨tb, 2, none⟩ = some (.int .i64 (s.page : Int)) := by simp [World.cell?, HBT6.out]
            have t3 : w6.cell? ⟨tb, 3, none⟩ = some (.slice b1 s.refs.length d1) := by simp [World.cell?, HBT6.out]
            have t4 : w6.cell? ⟨tb, 4, none⟩ = some (.slice b2 s.keep.length d2) := by simp [World.cell?, HBT6.out]
            have t5 : w6.cell? ⟨tb, 5, none⟩ = some (.bool s.stay) := by simp [World.cell?, HBT6.out]
            have t6 : w6.cell? ⟨tb, 6, none⟩ = some (.slice none 0 0) := by simp [World.cell?, HBT6.out]
            have HEQ : Hid (Calls Tryd.prog 13 #[.agg #[.int .i64 (s.num : Int), .int .i64 (s.kind : Int), .int .i64 (s.page : Int), .slice a1 s.refs.length c1, .slice a2 s.keep.length c2, .bool s.stay, .slice none 0 0], .agg #[.int .i64 (s.num : Int), .int .i64 (s.kind : Int), .int .i64 (s.page : Int), .slice b1 s.refs.length d1, .slice b2 s.keep.length d2, .bool s.stay, .slice none 0 0]] w6 fun e w' => e = .returned (.bool true) ∧ Fr (fun _ => False) w6 w') :=
              eqSegment_same (ofSeg s []) (.slice a1 s.refs.length c1) (.slice a2 s.keep.length c2) (.slice none 0 0) (.slice b1 s.refs.length d1) (.slice b2 s.keep.length d2) (.slice none 0 0) w6 ⟨HS6.out.1, HS6.out.2, rowNil w6⟩ ⟨HT6.out.1, HT6.out.2, rowNil w6⟩ (Nat.zero_le _)
            go_wp2_with fail
            refine HEQ.out.mono ?_
            rintro en w7 ⟨rfl, hf7⟩
            have HF7 : Hid (Fr (fun _ => False) w w7) := HF6.out.trans hf7 (fun _ _ h => h)
            clear hf7 HEQ HF6 HBS6 HBT6 HS6 HT6 s0 s1 s2 s3 s4 s5 s6 t0 t1 t2 t3 t4 t5 t6
            go_wp2_with fail
            go_roundw
            case rel => exact ⟨k + 1, by omega, by omega, congrArg (Value.int .i64) (by omega), HF7.out⟩
            case measure => simp [intOf]; omega
      · have hd2 : decide ((k : Int) < 10) = false := decide_eq_false (by omega)
        go_wp2_with fail
        refine (HWK.out _ HFR.out).mono ?_
        rintro e w1 ⟨rfl, hf1⟩
        go_wp2_with fail
        go_ret
        exact ⟨rfl, HFR.out.trans hf1 (fun _ _ h => h)⟩
    · have hd : decide ((k : Int) < (n : Int)) = false := decide_eq_false (by omega)
      go_wp2_with fail
      refine (HWK.out _ HFR.out).mono ?_
      rintro e w1 ⟨rfl, hf1⟩
      go_wp2_with fail
      go_ret
      exact ⟨rfl, HFR.out.trans hf1 (fun _ _ h => h)⟩
end Go.Proofs.YtamonbkhpbdojaaDoor

namespace Go.Proofs.YtamonbkhpbdojaaDoor
open Go.ChangeShapes Go.WideShapes Go.ChangeAt Go.RowKit

theorem Tryd.own : ownKnob Tryd.prog.godebug = none := by kernel_rfl
theorem Tryd.laidOut : laidOutB Tryd.prog = true := by kernel_rfl
theorem Tryd.cells3 : Tryd.prog.cellsOf 3 = 1 := by kernel_rfl
theorem Tryd.cells4 : Tryd.prog.cellsOf 4 = 1 := by kernel_rfl
theorem Tryd.cells5 : Tryd.prog.cellsOf 5 = 1 := by kernel_rfl
theorem Tryd.cells23 : Tryd.prog.cellsOf 23 = 1 := by kernel_rfl
theorem Tryd.cells24 : Tryd.prog.cellsOf 24 = 1 := by kernel_rfl
theorem Tryd.cells25 : Tryd.prog.cellsOf 25 = 1 := by kernel_rfl
theorem Tryd.cells27 : Tryd.prog.cellsOf 27 = 7 := by kernel_rfl
theorem Tryd.cells39 : Tryd.prog.cellsOf 39 = 2 := by kernel_rfl
theorem Tryd.cells59 : Tryd.prog.cellsOf 59 = 5 := by kernel_rfl

theorem addr_add (b off j : Nat) : (⟨b, off, none⟩ : Addr).add j = ⟨b, off + j, none⟩ := by
  unfold Addr.add; split <;> simp_all
theorem list2 {α : Type} : ∀ {l : List α}, l.length = 2 → ∃ a b, l = [a, b]
  | [a, b], _ => ⟨a, b, rfl⟩
theorem list5 {α : Type} : ∀ {l : List α}, l.length = 5 → ∃ a b c d e, l = [a, b, c, d, e]
  | [a, b, c, d, e], _ => ⟨a, b, c, d, e, rfl⟩
theorem list7 {α : Type} : ∀ {l : List α}, l.length = 7 → ∃ a b c d e f g, l = [a, b, c, d, e, f, g]
  | [a, b, c, d, e, f, g], _ => ⟨a, b, c, d, e, f, g, rfl⟩

theorem gRules : Tryd.prog.globalNamed "burin/segment.rules" = some 0 := by kernel_rfl
theorem tRules : (Tryd.prog.globals[0]?).map (·.type) = some 60 := by kernel_rfl
def ruleAgg (k : Nat) : DataW Unit := .agg [.lit (.int .i64 (rLo k : Int)), .lit (.int .i64 (rHi k : Int)), .lit (.bool (rRef k)), .lit (.bool (rStay k)), .lit (.int .i64 (rData k : Int))]
theorem laid_rules : (Rows.laid_burin_segment_rules : DataW Unit) = .agg [ruleAgg 0, ruleAgg 1, ruleAgg 2, ruleAgg 3, ruleAgg 4, ruleAgg 5, ruleAgg 6, ruleAgg 7] := rfl

set_option maxRecDepth 100000 in
theorem of_laid {W : World} (h : laidMetH Tryd.prog Rows.segmentOneRow.laid W) : RulesAt W := by
  rw [MakeChecks.laidMetH_plain _ _ _ (by kernel_rfl)] at h
  obtain ⟨ps, ⟨g0, t0, cs0, f0, p0, q0, hg0, ht0, hv0, hd0, _, _⟩, _, _⟩ := h
  obtain rfl := Option.some.inj (gRules.symm.trans hg0)
  obtain rfl := Option.some.inj (tRules.symm.trans ht0)
  obtain ⟨xs, m1, h1, h2, h3, h4, hel⟩ := DataW.trod_array Tryd.underlying60 hd0
  have hmap : xs.map (fun x => x.fst) = [ruleAgg 0, ruleAgg 1, ruleAgg 2, ruleAgg 3, ruleAgg 4, ruleAgg 5, ruleAgg 6, ruleAgg 7] := by
    have := congrArg Prod.fst h2
    rw [laid_rules] at this
    simp only [DataW.agg.injEq] at this
    exact this.symm
  have key : ∀ i, i < 8 → (cs0.toList.drop (i * 5)).take 5 = ruleV i := by
    intro i hi
    have h5 := hel i hi
    rw [Tryd.cells59, List.getElem?_eq_getElem (by omega)] at h5
    have hx : xs[i].1 = ruleAgg i := by
      have h6 := congrArg (fun l => l[i]?) hmap
      simp only [List.getElem?_map, List.getElem?_eq_getElem (show i < xs.length by omega), Option.map_some] at h6
      rcases (by omega : i = 0 ∨ i = 1 ∨ i = 2 ∨ i = 3 ∨ i = 4 ∨ i = 5 ∨ i = 6 ∨ i = 7) with rfl | rfl | rfl | rfl | rfl | rfl | rfl | rfl <;> exact Option.some.inj h6
    obtain ⟨ys, n, _, hx2, hl, hln, hf⟩ := DataW.trod_struct Tryd.underlying59 h5
    rw [Tryd.cells59] at hl
    generalize (cs0.toList.drop (i * 5)).take 5 = cs at *
    obtain ⟨a, b, c, d, e, rfl⟩ := list5 hl
    obtain ⟨y0, y1, y2, y3, y4, rfl⟩ := list5 (by simpa using hln)
    have e0 := hf 0 _ rfl
    have e1 := hf 1 _ rfl
    have e2 := hf 2 _ rfl
    have e3 := hf 3 _ rfl
    have e4 := hf 4 _ rfl
    simp [Tryd.cells3, Tryd.cells4] at e0 e1 e2 e3 e4
    obtain ⟨k0, f0, g0, _⟩ := DataW.trod_int Tryd.underlying3 e0
    obtain ⟨k1, f1, g1, _⟩ := DataW.trod_int Tryd.underlying3 e1
    obtain ⟨k2, f2, g2⟩ := DataW.trod_bool Tryd.underlying4 e2
    obtain ⟨k3, f3, g3⟩ := DataW.trod_bool Tryd.underlying4 e3
    obtain ⟨k4, f4, g4, _⟩ := DataW.trod_int Tryd.underlying3 e4
    rw [hx2] at hx
    rw [g0, g1, g2, g3, g4] at hx
    simp [ruleAgg] at hx f0 f1 f2 f3 f4
    obtain ⟨q0, q1, q2, q3, q4⟩ := hx
    unfold ruleV
    rw [f0, f1, f2, f3, f4, q0, q1, q2, q3, q4]
  have hlen : cs0.toList.length = 40 := by rw [h3]; kernel_rfl
  have chunk : ∀ k, cs0.toList.drop k = (cs0.toList.drop k).take 5 ++ cs0.toList.drop (k + 5) := by
    intro k
    rw [← List.drop_drop]
    exact (List.take_append_drop 5 _).symm
  have hall : cs0.toList = rulesArr.toList := by
    have c0 : cs0.toList = (cs0.toList.drop 0).take 5 ++ cs0.toList.drop 5 := chunk 0
    have c1 : cs0.toList.drop 5 = (cs0.toList.drop 5).take 5 ++ cs0.toList.drop 10 := chunk 5
    have c2 : cs0.toList.drop 10 = (cs0.toList.drop 10).take 5 ++ cs0.toList.drop 15 := chunk 10
    have c3 : cs0.toList.drop 15 = (cs0.toList.drop 15).take 5 ++ cs0.toList.drop 20 := chunk 15
    have c4 : cs0.toList.drop 20 = (cs0.toList.drop 20).take 5 ++ cs0.toList.drop 25 := chunk 20
    have c5 : cs0.toList.drop 25 = (cs0.toList.drop 25).take 5 ++ cs0.toList.drop 30 := chunk 25
    have c6 : cs0.toList.drop 30 = (cs0.toList.drop 30).take 5 ++ cs0.toList.drop 35 := chunk 30
    have c7 : cs0.toList.drop 35 = (cs0.toList.drop 35).take 5 ++ cs0.toList.drop 40 := chunk 35
    have k0 := key 0 (by omega)
    have k1 := key 1 (by omega)
    have k2 := key 2 (by omega)
    have k3 := key 3 (by omega)
    have k4 := key 4 (by omega)
    have k5 := key 5 (by omega)
    have k6 := key 6 (by omega)
    have k7 := key 7 (by omega)
    simp only [Nat.zero_mul, Nat.one_mul, Nat.reduceMul] at k0 k1 k2 k3 k4 k5 k6 k7
    rw [k0] at c0
    rw [k1] at c1
    rw [k2] at c2
    rw [k3] at c3
    rw [k4] at c4
    rw [k5] at c5
    rw [k6] at c6
    rw [k7, List.drop_eq_nil_of_le (by omega : cs0.toList.length ≤ 40)] at c7
    rw [c0, c1, c2, c3, c4, c5, c6, c7]
    rfl
  have hcs : cs0 = rulesArr := Array.toList_inj.1 hall
  simp only [World.var?, hg0, Option.bind_some] at hv0
  split at hv0
  · rename_i cs ty ex hb
    cases hv0
    exact ⟨_, _, by rw [← hcs]; exact hb⟩
  · cases hv0

set_option maxRecDepth 100000 in
theorem open_bytes {H : Type} {enc : TypeId × Value → H} {W : World} {fuel : Nat} {v : Value} {x : DataW H × List MemPlace} (h : DataW.trod enc Tryd.prog W 0 (fun _ => true) true fuel 25 [v] = some x) :
    ∃ (bo : Option Addr) (bcap : Nat) (l : List Nat), v = .slice bo l.length bcap ∧ DB0 W bo bcap l ∧ (l ≠ [] → ∃ elems spare, x.1 = .slice elems spare ∧ l.length ≤ elems.length + spare.length) := by
  rcases open_ints Tryd.underlying25 Tryd.underlying5 (by kernel_rfl) h with ⟨hcs, _⟩ | ⟨a, len, c, zs, hcs, _, hl, hm, hz, hx, hcell, hwz⟩
  · simp at hcs
    subst hcs
    exact ⟨none, 0, [], rfl, ⟨fun hn => absurd rfl hn, (fun y hy => by cases hy), (fun _ => rfl), Nat.le_refl _, (by unfold maxLen; omega), fun ad e => by cases e⟩, fun hn => absurd rfl hn⟩
  · simp at hcs
    have hz' : zs.length = c := by simpa using hz
    have hb : ∀ z ∈ zs, 0 ≤ z ∧ z ≤ 255 := fun z hzm => bounds_u8 (hwz _ hzm)
    have hlen : ((zs.take len).map Int.toNat).length = len := by simp; omega
    subst hcs
    have hsp : 0 < c → ∃ b off, a = ⟨b, off, none⟩ := fun hc => by
      obtain ⟨b, off, spot⟩ := a
      have hspot : spot = none := by
        have := World.cell?_spot (hcell 0 (by omega))
        simpa [Addr.add] using this
      subst hspot
      exact ⟨b, off, rfl⟩
    refine ⟨some a, c, (zs.take len).map Int.toNat, by rw [hlen], ⟨fun hne => ?_, ?_, (fun e => by cases e), by rw [hlen]; exact hl, hm, fun ad e hc => by cases e; exact hsp hc⟩, fun _ => ⟨_, _, by rw [hx], by simp [lits]⟩⟩
    · have hpos : 0 < len := by rw [← hlen]; exact List.length_pos_iff.2 hne
      obtain ⟨b, off, rfl⟩ := hsp (by omega)
      refine ⟨b, off, rfl, fun j hj => ?_⟩
      rw [hlen] at hj
      have h1 := hcell j (by omega)
      rw [addr_add] at h1
      rw [h1]
      have hjz : j < zs.length := by omega
      have hmem : zs[j] ∈ zs := List.getElem_mem _
      have := hb _ hmem
      simp [hj, hjz]
      omega
    · intro y hy
      obtain ⟨z, hz1, rfl⟩ := List.mem_map.1 hy
      have := hb z (List.mem_of_mem_take hz1)
      omega

set_option maxRecDepth 100000 in
theorem open_places0 {H : Type} {enc : TypeId × Value → H} {W : World} {fuel : Nat} {v : Value} {x : DataW H × List MemPlace} (h : DataW.trod enc Tryd.prog W 0 (fun _ => true) true fuel 37 [v] = some x) :
    ∃ ao n cap A, v = .slice ao n cap ∧ PlcsAt W ao n A := by
  rcases Deep.open_slice Tryd.underlying37 h with ⟨hcs, _⟩ | ⟨a, len, cap, m, f, D, Pl, hcs, _, hlc, hmx, hm, _, hel⟩
  · simp at hcs
    exact ⟨none, 0, 0, fun _ => ⟨none, 0, [], 0⟩, hcs, by omega, by omega, by omega⟩
  · simp at hcs
    have hlm : len ≤ m := by rw [hm]; split <;> omega
    have hex : ∀ i, i < len → ∃ y : Plc, (W.cell? ((a.add (i * 2)).add 0) = some (.slice y.ao y.l.length y.cap) ∧ W.cell? ((a.add (i * 2)).add 1) = some (.int .i64 y.x)) ∧ DB0 W y.ao y.cap y.l := by
      intro i hi
      obtain ⟨cs', hc, ht⟩ := hel i (by omega)
      obtain ⟨ys, n, _, _, hl, hln, hf⟩ := DataW.trod_struct Tryd.underlying39 ht
      rw [Tryd.cells39] at hl hc
      obtain ⟨c0, c1, rfl⟩ := list2 hl
      obtain ⟨y0, y1, rfl⟩ := list2 (by simpa using hln)
      have t0 := hf 0 _ rfl
      have t1 := hf 1 _ rfl
      simp [Tryd.cells3, Tryd.cells25] at t0 t1
      obtain ⟨bo, bcap, B, e0, s0, _⟩ := open_bytes (x := y0) t0
      obtain ⟨k1, e1, _, _⟩ := DataW.trod_int (x := y1) Tryd.underlying3 t1
      simp at e1
      subst e0 e1
      have hcc := (World.cells?_some hc).2.2
      exact ⟨⟨bo, bcap, B, k1⟩, ⟨hcc 0 (by omega), hcc 1 (by omega)⟩, s0⟩
    have : Nonempty Plc := ⟨⟨none, 0, [], 0⟩⟩
    have hinh : Inhabited Plc := ⟨⟨none, 0, [], 0⟩⟩
    obtain ⟨f, hf⟩ := Deep.choose_lt hex
    refine ⟨some a, len, cap, f, hcs, by unfold maxLen at hmx; omega, fun hn => ?_, fun j hj => (hf j hj).2⟩
    obtain ⟨b, off, spot⟩ := a
    have hspot : spot = none := by
      have := World.cell?_spot (hf 0 hn).1.1
      simpa [Addr.add] using this
    subst hspot
    refine ⟨b, off, rfl, fun j hj => ?_⟩
    have := (hf j hj).1
    simp only [addr_add] at this
    exact this

set_option maxRecDepth 100000 in
theorem open_places {H : Type} {enc : TypeId × Value → H} {W : World} {base : Nat} {v0 : Value} {d0 : DataW H} {p0 : List MemPlace} (hv : Value.okWide Tryd.prog W .any base 37 v0) (h0 : DataW.Trod enc Tryd.prog W 0 (fun _ => true) true 37 v0 d0 p0) :
    ∃ ao n cap A, v0 = .slice ao n cap ∧ PlcsAt W ao n A := by
  obtain ⟨a0, len0, cap0, rfl⟩ := okWide_slice Tryd.underlying37 hv
  obtain ⟨fuel, hf⟩ := h0
  exact open_places0 hf
end Go.Proofs.YtamonbkhpbdojaaDoor

namespace Go.Proofs.YtamonbkhpbdojaaDoor
open Go.ChangeShapes Go.WideShapes Go.ChangeAt Go.RowKit

theorem segmentReads_door (os : Os) (args : Array Value) : laidMetH Tryd.prog Rows.segmentReadsRow.laid ((World.doorLaid Tryd.prog 400 os).forCall (fun _ _ => 0) ⟨#[], args, []⟩).memory :=
  laidMetH_of_parts3 (fuel := 8) (laidMet_of_run' 8 (by kernel_rfl) (by kernel_rfl)) (by kernel_rfl) (by kernel_rfl)

set_option maxRecDepth 100000 in
theorem segmentReads_lifted (os : Os) (started : os.Started) (H : Type) (enc : TypeId × Value → H) :
    ReturnsInHanded {} Tryd.checked os 4 .any (fun w args => (Rows.segmentReadsSpec.pre enc Tryd.prog Tryd.f4 [] false w args ∧ laidMetH Tryd.prog Rows.segmentReadsRow.laid w) ∧ sizedMet enc Tryd.prog Tryd.f4 (OpenSpec.ofChange Rows.segmentReadsSpec) false w args)
      (Rows.segmentReadsSpec.post enc Tryd.prog Tryd.f4 false true false false) := by
  refine returnsInHanded_of_change_and (C := Tryd.checked) (X := fun w _ => laidMetH Tryd.prog Rows.segmentReadsRow.laid w) (fun _ _ _ hh h => h.of_heap hh) Tryd.own started (by kernel_rfl) Tryd.func4
    (ChangeSpec.witness_shaped (enc := enc) (C := Tryd.checked) (os := os) (X := fun w _ => laidMetH Tryd.prog Rows.segmentReadsRow.laid w) false (World.doorLaid Tryd.prog 400 os) #[.slice none 0 0] 8 rfl (World.shaped_of_RefB (by kernel_rfl) (by kernel_rfl)) (by kernel_rfl) (by kernel_rfl) (by kernel_rfl) (segmentReads_door os _)) ?_
  intro W base args ds gs before hval0 hW _ _ hL _
  have hval : ∀ (j : Nat) t v, Tryd.f4.params[j]? = some t → args[j]? = some v → Value.okWide Tryd.prog W .any base t v := hval0
  have hW' := hW
  obtain ⟨p, q, hA0, hV, rfl, hfz, hnd⟩ := hW
  have hA : DataW.TrodAll enc Tryd.prog W 0 (fun _ => true) true Tryd.f4.params.toList args.toList ds p := hA0
  rw [Tryd.params4] at hA hval
  obtain ⟨v0, vs0, d0, ds0, p0, q0, hargs, rfl, rfl, h0, r0⟩ := trodAll_cons hA
  obtain ⟨rfl, rfl, rfl⟩ := trodAll_nil r0
  obtain rfl : args = #[v0] := by cases args; simp_all
  obtain ⟨rfl, rfl⟩ := trodVars_none hV
  have k0 := h0
  have lt0 : ∀ x ∈ p0, x.block < W.heap.size := by obtain ⟨m, hm⟩ := k0; exact DataW.trod_lt m _ _ _ hm
  obtain ⟨ao, n, cap, A, rfl, ho⟩ := open_places (hval 0 37 v0 rfl rfl) h0
  have hT := of_laid hL
  clear hA0 hval0
  refine (reads_any ao n cap A W ho hT).mono fun e W' ⟨he, fr⟩ => ?_
  subst he
  have bel : Below W.heap.size W W' := fr.below (Nat.le_refl _) (fun _ _ hh => hh)
  exact ⟨_, rfl, _, _, _, [], _, [], hW', trodAll_mk1 (shut_bool Tryd.underlying4 _), (trodAll_cons_mk (Below.trod Tryd.laidOut (by kernel_rfl) (of_decide_eq_true (by kernel_rfl)) k0 bel lt0) trodAll_mk0), rfl, bel.frame _, fun h => by cases h⟩

theorem segmentReads_holds : Rows.SegmentReadsSaid :=
  OpenClaim.holds_of_wide 4 Tryd.f4 rfl rfl rfl rfl rfl rfl rfl ⟨rfl, rfl, rfl, rfl, rfl⟩ rfl rfl rfl rfl rfl (by kernel_rfl) Tryd.func4 (by kernel_rfl)
    (of_decide_eq_true (by kernel_rfl)) (by unfold Func.isWrapper; first | (rw [if_pos (by decide +kernel)]; kernel_rfl) | (rw [if_neg (by decide +kernel)]; exact ⟨rfl, rfl⟩))
    (fun os started H enc _ => segmentReads_lifted os started H enc)

theorem segmentReads_card_holds : Rows.SegmentReadsCardSaid :=
  Claim7.holds_tied_plain_at .later [] [.data] true (true, "dfe31900b703c63ecb576129a6aaa6c9e3c0800aa85ae247a16202deba55960e") true
    segmentReads_holds (fun _ h => by cases h) (by kernel_rfl) (fun _ h => by cases h) segmentReads_row_tie rfl ⟨rfl, rfl⟩ (by kernel_rfl) rfl
    (fun f fn hf hfn => by
      obtain rfl : f = 4 := Option.some.inj ((show Tryd.prog.funcNamed "burin/burinlaw16.SegmentReads" = some 4 by kernel_rfl).symm.trans hf) |>.symm
      obtain rfl : fn = Tryd.f4 := (Option.some.inj (Tryd.func4.symm.trans hfn)).symm
      exact ⟨by kernel_rfl, fun j t ht => by
        rw [Tryd.params4] at ht
        have hm : t ∈ [37] := by simpa using Array.mem_of_getElem? ht
        have hall : ([37].all fun u => !Tryd.prog.wantsStandIn u) = true := by kernel_rfl
        exact (show Tryd.prog.wantsStandIn t = false by simpa using List.all_eq_true.1 hall t hm)⟩)
    (by kernel_rfl)

end Go.Proofs.YtamonbkhpbdojaaDoor
