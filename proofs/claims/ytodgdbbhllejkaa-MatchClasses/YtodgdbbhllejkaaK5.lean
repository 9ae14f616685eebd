/- 'LendBitmap' and 'BackBitmap'. -/
import Derived.Test.YtodgdbbhllejkaaK3
import Derived.BigRegion
import Derived.ProofKit
import Derived.OpenShut
import Derived.ChangeOld
import Derived.Lib.SmallJoins
import Derived.Deep.Slices
import Derived.Deep.Strs
import Derived.Test.YtodgdbbhllejkaaKMt
namespace Go.Proofs.Ytodgdbbhllejkaa
open Go.RowKit

def marks (l : List Nat) (k : Nat) : List Nat := l ++ List.replicate k 42405
theorem marks_zero (l : List Nat) : marks l 0 = l := by simp [marks]
theorem marks_succ (l : List Nat) (k : Nat) : marks l (k + 1) = marks l k ++ [42405] := by unfold marks; rw [List.replicate_succ', List.append_assoc]
theorem length_marks (l : List Nat) (k : Nat) : (marks l k).length = l.length + k := by simp [marks]
theorem marks_get (l : List Nat) (k : Nat) (h : k < 7) : (marks l 7)[l.length + k]? = some 42405 := by
  unfold marks
  rw [List.getElem?_append_right (by omega), show l.length + k - l.length = k from by omega, List.getElem?_replicate, if_pos h]
theorem marks_front (l : List Nat) : (marks l 7).take l.length = l := by
  unfold marks
  rw [List.take_left]
theorem row_shrink {w : World} {b e g n k cap : Nat} {xs : List Value} (h : w.ownsRow b e 1 (.slice (some ⟨g, 0, none⟩) n cap) n xs) (hk : k ≤ n) : w.ownsRow b e 1 (.slice (some ⟨g, 0, none⟩) k cap) k (xs.take k) := by
  obtain ⟨h1, h2⟩ := h
  refine ⟨by rw [List.length_take]; omega, ?_⟩
  rcases h2 with ⟨e, _⟩ | ⟨g', cap', cur, hv, hb, hg, hc, hm, hs, ht⟩
  · cases e
  · simp only [Value.slice.injEq, Option.some.injEq, Addr.mk.injEq, true_and, and_true] at hv
    obtain ⟨rfl, rfl⟩ := hv
    refine Or.inr ⟨g, cap, cur, rfl, hb, hg, by omega, hm, hs, ?_⟩
    rw [← ht, List.take_take]
    congr 1; omega

/-- Nil is nothing. -/
def NilOK (v : Value) : Prop := ∀ n c, v = .slice none n c → n = 0 ∧ c = 0

/-- Words that are lent, with marks behind them. -/
def Lent (w : World) (g : Nat) (l : List Nat) : Prop := w.ownsRow 0 23 1 (.slice (some ⟨g, 0, none⟩) (l.length + 7) (l.length + 7)) (l.length + 7) (wordCells (marks l 7))
theorem Lent.kept {S : Nat → Prop} {w w' : World} {g : Nat} {l : List Nat} (h : Lent w g l) (f : Fr S w w') (h1 : ¬ S g) : Lent w' g l :=
  row_kept h f (fun k hk => by simp [Value.ownBlock] at hk; subst hk; exact h1)
theorem Lent.lt {w : World} {g : Nat} {l : List Nat} (h : Lent w g l) : g < w.heap.size := (World.ownsRow.lt h g rfl).2
theorem Lent.seen {w : World} {g : Nat} {l : List Nat} (h : Lent w g l) (hl : l.length ≤ 1048576) : Seen w (.slice (some ⟨g, 0, none⟩) l.length (l.length + 7)) l := by
  have h1 := row_shrink (k := l.length) h (by omega)
  rw [wordCells_take, marks_front] at h1
  exact Seen.of_row h1 (by omega)

set_option maxRecDepth 100000 in
set_option maxHeartbeats 2000000 in
theorem eqBitmap_int (W H : Int) (v u : Value) (l : List Nat) (w : World) (ha : Seen w v l) (hb : Seen w u l) :
    Calls Try.prog 23 #[.agg #[.int .i64 W, .int .i64 H, v], .agg #[.int .i64 W, .int .i64 H, u]] w fun e w' => e = .returned (.bool true) ∧ Fr (fun _ => False) w w' := by
  have HQ : Hid (∀ w', Fr (fun _ => False) w w' → Calls Try.prog 38 #[v, u] w' fun e w'' => e = .returned (.bool true) ∧ ∃ q, w'' = w'.drewN q) := fun w' hf => eqw_same v u l l w' (ha.kept hf) (hb.kept hf) rfl true (by show true = _; simp)
  obtain ⟨ao, ca, rfl, hla, _⟩ := ha
  obtain ⟨bo, cb, rfl, hlb, _⟩ := hb
  have hw1 : (W == W) = true := by simp
  have hw2 : (H == H) = true := by simp
  go_enter Try.func23, Try.ntmps23
  go_wp2_with fail
  refine (HQ.out _ (((Fr.refl _ _).alloc _).alloc _)).mono ?_
  rintro e w1 ⟨rfl, q, hw1⟩
  have HF : Hid (Fr (fun _ => False) w w1) := by rw [hw1]; exact (((Fr.refl _ _).alloc _).alloc _).drewN q
  clear hw1
  go_wp2_with fail
  go_ret
  exact ⟨rfl, HF.out⟩

end Go.Proofs.Ytodgdbbhllejkaa

/- The arguments of the laws, opened: a bitmap, runs, rows of runs. -/
namespace Go.Proofs.Ytodgdbbhllejkaa
open Go.ChangeShapes Go.WideShapes Go.ChangeAt Go.RowKit

theorem Try.own : ownKnob Try.prog.godebug = none := by kernel_rfl
theorem Try.laidOut : laidOutB Try.prog = true := by kernel_rfl
theorem Try.cells48 : Try.prog.cellsOf 48 = 3 := by kernel_rfl
theorem Try.cells3 : Try.prog.cellsOf 3 = 1 := by kernel_rfl
theorem Try.cells46 : Try.prog.cellsOf 46 = 1 := by kernel_rfl
theorem addr_add (b off j : Nat) : (⟨b, off, none⟩ : Addr).add j = ⟨b, off + j, none⟩ := by
  unfold Addr.add; split <;> simp_all

theorem open_ws {H : Type} {enc : TypeId × Value → H} {W : World} {fuel : Nat} {sp : Nat → Bool} {hd : Bool} {v : Value} {x : DataW H × List MemPlace} (h : DataW.trod enc Try.prog W 0 sp hd fuel 46 [v] = some x) :
    ∃ l : List Nat, Seen W v l ∧ CapOK v ∧ ∀ j : Nat, l[j]?.getD 0 < 18446744073709551616 := by
  rcases open_ints Try.underlying46 Try.underlying23 (by kernel_rfl) h with ⟨hcs, _⟩ | ⟨x, l, c, zs, hcs, _, hl, hm, hz, _, hcell, hwz⟩
  · simp at hcs
    subst hcs
    exact ⟨[], ⟨none, 0, rfl, by simp, fun hn => absurd rfl hn⟩, fun ao n c e => by cases e; exact ⟨by omega, by omega⟩, fun j => by simp⟩
  · simp at hcs
    subst hcs
    have hlz : l ≤ zs.length := by
      have := hz
      split at this <;> omega
    have hb : ∀ z ∈ zs, 0 ≤ z ∧ z ≤ 18446744073709551615 := fun z hmem => bounds_u64 (hwz _ hmem)
    have hlen : ((zs.take l).map Int.toNat).length = l := by simp; omega
    refine ⟨(zs.take l).map Int.toNat, ⟨some x, c, by rw [hlen], by rw [hlen]; unfold maxLen at hm; omega, fun hn => ?_⟩, fun ao n c' e => by cases e; exact ⟨hl, hm⟩, fun j => ?_⟩
    · have hl0 : 0 < l := by
        rcases Nat.eq_zero_or_pos l with h0 | h0
        · subst h0; simp at hn
        · exact h0
      obtain ⟨b, off, spot⟩ := x
      have hspot : spot = none := by
        have := World.cell?_spot (hcell 0 (by omega))
        simpa [Addr.add] using this
      subst hspot
      refine ⟨b, off, rfl, fun j hj => ?_⟩
      rw [hlen] at hj
      have h1 := hcell j (by omega)
      rw [addr_add] at h1
      rw [h1]
      have h2 : (zs.take l)[j]? = some (zs.getD j 0) := by
        rw [List.getElem?_take_of_lt hj, List.getD_eq_getElem?_getD, List.getElem?_eq_getElem (by omega)]; rfl
      have h3 : 0 ≤ zs.getD j 0 := by
        have hmem : zs.getD j 0 ∈ zs := by
          rw [List.getD_eq_getElem?_getD, List.getElem?_eq_getElem (by omega)]; exact List.getElem_mem _
        exact (hb _ hmem).1
      rw [List.getElem?_map, h2]
      simp only [Option.map_some, Option.getD_some, Int.toNat_of_nonneg h3]
    · rw [List.getElem?_map]
      by_cases hj : j < (zs.take l).length
      · rw [List.getElem?_eq_getElem hj]
        simp only [Option.map_some, Option.getD_some]
        have := hb _ (List.mem_of_mem_take (List.getElem_mem hj))
        omega
      · rw [List.getElem?_eq_none (by omega)]; simp

set_option maxRecDepth 100000 in
theorem bm_elem {H : Type} {enc : TypeId × Value → H} {W : World} {n : Nat} {sp : Nat → Bool} {hd : Bool} {cs : List Value} {x : DataW H × List MemPlace} (h : DataW.trod enc Try.prog W 0 sp hd n 48 cs = some x) :
    ∃ (a b : Int) (v : Value) (l : List Nat), cs = [.int .i64 a, .int .i64 b, v] ∧ (-9223372036854775808 ≤ a ∧ a ≤ 9223372036854775807) ∧ (-9223372036854775808 ≤ b ∧ b ≤ 9223372036854775807) ∧ Seen W v l ∧ CapOK v ∧ ∀ j : Nat, l[j]?.getD 0 < 18446744073709551616 := by
  obtain ⟨y0, y1, y2, m, _, hlen, t0, t1, t2⟩ := Deep.trod_struct3 Try.underlying48 h
  rw [Try.cells48] at hlen
  obtain ⟨a, b, c, rfl⟩ : ∃ a b c, cs = [a, b, c] := by
    match cs, hlen with
    | [a, b, c], _ => exact ⟨a, b, c, rfl⟩
  simp only [Try.cells3, Try.cells46] at t0 t1 t2
  obtain ⟨k0, e0, _, w0⟩ := DataW.trod_int Try.underlying3 t0
  obtain ⟨k1, e1, _, w1⟩ := DataW.trod_int Try.underlying3 t1
  simp at e0 e1
  subst e0; subst e1
  obtain ⟨l, hl1, hl0, hl2⟩ := open_ws t2
  have b0 := bounds_i64 w0
  have b1 := bounds_i64 w1
  exact ⟨k0, k1, c, l, rfl, by omega, by omega, hl1, hl0, hl2⟩



theorem range_get {α : Type} (f : Nat → α) (d : α) {n j : Nat} (h : j < n) : ((List.range n).map f)[j]?.getD d = f j := by
  rw [List.getElem?_map, List.getElem?_range h]; rfl

set_option maxRecDepth 100000 in
theorem ws_nil {H : Type} {enc : TypeId × Value → H} {W : World} {fuel : Nat} {sp : Nat → Bool} {hd : Bool} {v : Value} {x : DataW H × List MemPlace} (h : DataW.trod enc Try.prog W 0 sp hd fuel 46 [v] = some x) : NilOK v := by
  rcases open_ints Try.underlying46 Try.underlying23 (by kernel_rfl) h with ⟨hcs, _⟩ | ⟨x, l, c, zs, hcs, _⟩
  · simp at hcs
    subst hcs
    intro n c e
    cases e
    exact ⟨rfl, rfl⟩
  · simp at hcs
    subst hcs
    intro n c e
    cases e

set_option maxRecDepth 100000 in
theorem bm_nil {H : Type} {enc : TypeId × Value → H} {W : World} {n : Nat} {sp : Nat → Bool} {hd : Bool} {a b v : Value} {x : DataW H × List MemPlace} (h : DataW.trod enc Try.prog W 0 sp hd n 48 [a, b, v] = some x) : NilOK v := by
  obtain ⟨y0, y1, y2, m, _, hlen, t0, t1, t2⟩ := Deep.trod_struct3 Try.underlying48 h
  simp only [Try.cells3, Try.cells46] at t0 t1 t2
  exact ws_nil t2

/-- Bitmaps that are handed in. -/
structure Bp where
  x : Int
  y : Int
  v : Value
  l : List Nat
structure BpOK (w : World) (a : Bp) : Prop where
  hx : -9223372036854775808 ≤ a.x ∧ a.x ≤ 9223372036854775807
  hy : -9223372036854775808 ≤ a.y ∧ a.y ≤ 9223372036854775807
  hv : Seen w a.v a.l
  hc : CapOK a.v
  hn : NilOK a.v
  hlt : ∀ j : Nat, a.l[j]?.getD 0 < 18446744073709551616
theorem BpOK.kept {w w' : World} {a : Bp} (h : BpOK w a) (f : Fr (fun _ => False) w w') : BpOK w' a := ⟨h.hx, h.hy, h.hv.kept f, h.hc, h.hn, h.hlt⟩
structure BpsAt (w : World) (ao : Option Addr) (n : Nat) (A : Nat → Bp) : Prop where
  len : n ≤ 9223372036854775807
  cells : 0 < n → ∃ b off, ao = some ⟨b, off, none⟩ ∧ ∀ j, j < n → w.cell? ⟨b, off + j * 3, none⟩ = some (.int .i64 (A j).x) ∧ w.cell? ⟨b, off + j * 3 + 1, none⟩ = some (.int .i64 (A j).y) ∧ w.cell? ⟨b, off + j * 3 + 2, none⟩ = some (A j).v
  ok : ∀ j, j < n → BpOK w (A j)

set_option maxRecDepth 100000 in
theorem open_bps {H : Type} {enc : TypeId × Value → H} {W : World} {base : Nat} {v0 : Value} {d0 : DataW H} {p0 : List MemPlace} (hv : Value.okWide Try.prog W .any base 22 v0) (h0 : DataW.Trod enc Try.prog W 0 (fun _ => true) true 22 v0 d0 p0) :
    ∃ ao n cap A, v0 = .slice ao n cap ∧ BpsAt W ao n A := by
  obtain ⟨a0, len0, cap0, rfl⟩ := okWide_slice Try.underlying22 hv
  obtain ⟨fuel, h⟩ := h0
  rcases Deep.open_slice Try.underlying22 h with ⟨hcs, _⟩ | ⟨a, len, cap, m, f, D, Pl, hcs, _, hlc, hmx, hm, _, hel⟩
  · simp [Value.cells] at hcs
    obtain ⟨rfl, rfl, rfl⟩ := hcs
    exact ⟨none, 0, 0, fun _ => ⟨0, 0, .slice none 0 0, []⟩, rfl, by omega, by omega, by omega⟩
  · simp [Value.cells] at hcs
    obtain ⟨rfl, rfl, rfl⟩ := hcs
    have hlm : len0 ≤ m := by rw [hm]; split <;> omega
    have hex : ∀ i, i < len0 → ∃ y : Bp, (W.cell? ((a.add (i * 3)).add 0) = some (.int .i64 y.x) ∧ W.cell? ((a.add (i * 3)).add 1) = some (.int .i64 y.y) ∧ W.cell? ((a.add (i * 3)).add 2) = some y.v) ∧ BpOK W y := by
      intro i hi
      obtain ⟨cs', hc, ht⟩ := hel i (by omega)
      obtain ⟨x, y, v, l, rfl, b1, b2, b3, b4, b5⟩ := bm_elem ht
      rw [Try.cells48] at hc
      have hcc := (World.cells?_some hc).2.2
      exact ⟨⟨x, y, v, l⟩, ⟨hcc 0 (by omega), hcc 1 (by omega), hcc 2 (by omega)⟩, b1, b2, b3, b4, bm_nil ht, b5⟩
    have hinh : Inhabited Bp := ⟨⟨0, 0, .slice none 0 0, []⟩⟩
    obtain ⟨f, hf⟩ := Deep.choose_lt hex
    refine ⟨some a, len0, cap0, f, rfl, by unfold maxLen at hmx; omega, fun hn => ?_, fun i hi => (hf i hi).2⟩
    obtain ⟨b, off, spot⟩ := a
    have hspot : spot = none := by
      have := World.cell?_spot (hf 0 hn).1.1
      simpa [Addr.add] using this
    subst hspot
    refine ⟨b, off, rfl, fun j hj => ?_⟩
    have := (hf j hj).1
    simp only [addr_add] at this
    exact this

set_option maxRecDepth 100000 in
theorem open_bm {H : Type} {enc : TypeId × Value → H} {W : World} {base : Nat} {v0 : Value} {d0 : DataW H} {p0 : List MemPlace} (hv : Value.okWide Try.prog W .any base 48 v0) (h0 : DataW.Trod enc Try.prog W 0 (fun _ => true) true 48 v0 d0 p0) :
    ∃ (x y : Int) (v : Value) (l : List Nat), v0 = .agg #[.int .i64 x, .int .i64 y, v] ∧ (-9223372036854775808 ≤ x ∧ x ≤ 9223372036854775807) ∧ (-9223372036854775808 ≤ y ∧ y ≤ 9223372036854775807) ∧ Seen W v l ∧ CapOK v ∧ ∀ j : Nat, l[j]?.getD 0 < 18446744073709551616 := by
  obtain ⟨cs, rfl, hsz⟩ := okWide_struct Try.underlying48 hv
  obtain ⟨fuel, hf⟩ := h0
  obtain ⟨x, y, v, l, e0, b1, b2, b3, b4, b5⟩ := bm_elem hf
  obtain ⟨L⟩ := cs
  simp [Value.cells] at e0
  subst e0
  exact ⟨x, y, v, l, rfl, b1, b2, b3, b4, b5⟩

end Go.Proofs.Ytodgdbbhllejkaa

/- What the program's measures and the document's own answer to any bitmap, and to any two. -/
namespace Go.Proofs.Ytodgdbbhllejkaa
open Go.RowKit Ieee

theorem vb_of {x y : Int} {l : List Nat} (hlt : ∀ j : Nat, l[j]?.getD 0 < 18446744073709551616) (hval : validB x y l = true) :
    ∃ (W H : Nat) (P : Nat → Nat → Bool), x = W ∧ y = H ∧ l = render W H P ∧ W ≤ 1048576 ∧ H ≤ 1048576 ∧ ∀ (w : World) (v : Value), Seen w v l → Vb w v W H P := by
  have hv' := hval
  unfold validB at hv'
  simp only [Bool.and_eq_true, decide_eq_true_eq] at hv'
  obtain ⟨⟨hs, hl⟩, hr⟩ := hv'
  unfold sizeOK at hs
  obtain ⟨s1, s2, s3⟩ := of_decide_eq_true hs
  obtain ⟨W, rfl⟩ : ∃ W : Nat, x = W := ⟨x.toNat, by omega⟩
  obtain ⟨H, rfl⟩ : ∃ H : Nat, y = H := ⟨y.toNat, by omega⟩
  have e := valid_render W H l (by omega) hl hr hlt
  have s4 : W * H ≤ 1048576 := by rw [← Int.natCast_mul] at s3; omega
  obtain ⟨f1, f2, f3⟩ := size_facts (W := W) (H := H) (by omega) (by omega) s4
  exact ⟨W, H, pixOf W l, rfl, rfl, e, f1, f2, fun w v hv => ⟨by rw [← e]; exact hv, by omega, by omega, s4, by rw [← e]; exact hval⟩⟩

theorem inf_share : ShP (1 : Int) (0 : Int) 9218868437227405312 := ⟨by decide, Or.inl (by rw [div_by_zero rfl (by decide)]; rfl)⟩

/-- Unlike of any two bitmaps: refused with a nought, or the document's own. -/
theorem un_all (x y x' y' : Int) (l l' : List Nat) (hx : -9223372036854775808 ≤ x ∧ x ≤ 9223372036854775807) (hy : -9223372036854775808 ≤ y ∧ y ≤ 9223372036854775807) (hx' : -9223372036854775808 ≤ x' ∧ x' ≤ 9223372036854775807) (hy' : -9223372036854775808 ≤ y' ∧ y' ≤ 9223372036854775807) (hlt : ∀ j : Nat, l[j]?.getD 0 < 18446744073709551616) (hlt' : ∀ j : Nat, l'[j]?.getD 0 < 18446744073709551616) :
    ∃ (er : Int) (PU : Nat → Prop),
      (∀ (w : World) (v v' : Value), Seen w v l → Seen w v' l' → Calls Try.prog 25 #[.agg #[.int .i64 x, .int .i64 y, v], .agg #[.int .i64 x', .int .i64 y', v']] w fun e w' => ∃ a, e = .returned (.tuple #[.float .f64 a, .int .i64 er]) ∧ PU a ∧ Fr (fun _ => False) w w') ∧
      (((validB x y l = false ∨ validB x' y' l' = false) ∧ er = 101 ∧ (∀ a, PU a → a = 0)) ∨
       ((validB x y l = true ∧ validB x' y' l' = true) ∧ er = 0 ∧
        (∀ (w : World) (v v' : Value), Seen w v l → Seen w v' l' → Calls Try.prog 29 #[.agg #[.int .i64 x, .int .i64 y, v], .agg #[.int .i64 x', .int .i64 y', v']] w fun e w' => ∃ q, e = .returned (.float .f64 q) ∧ (∀ a, PU a → sameB a q = true) ∧ Fr (fun _ => False) w w'))) := by
  by_cases hb : validB x y l = false ∨ validB x' y' l' = false
  · exact ⟨101, (· = 0), fun w v v' hv hv' => (unlike_bad x y x' y' v v' l l' w hv hlt hv' hlt' hb hx hy hx' hy').mono (fun e w' h => ⟨0, h.1, rfl, h.2⟩), Or.inl ⟨hb, rfl, fun _ h => h⟩⟩
  · have h1 : validB x y l = true := by cases h : validB x y l <;> simp_all
    have h2 : validB x' y' l' = true := by cases h : validB x' y' l' <;> simp_all
    obtain ⟨W, H, P, rfl, rfl, e, f1, f2, hvb⟩ := vb_of hlt h1
    obtain ⟨W', H', Q, rfl, rfl, e', f1', f2', hvb'⟩ := vb_of hlt' h2
    by_cases hs : W = W' ∧ H = H'
    · obtain ⟨rfl, rfl⟩ := hs
      refine ⟨0, ShP ((unl W H P Q : Nat) : Int) ((W * H : Nat) : Int), fun w v v' hv hv' => unlike_ok W H v v' P Q w (hvb w v hv) (hvb' w v' hv'), Or.inr ⟨⟨h1, h2⟩, rfl, fun w v v' hv hv' => ?_⟩⟩
      exact (runlike_ok W H v v' P Q w (hvb w v hv) (hvb' w v' hv')).mono (fun e w' ⟨q, he, hq, hf⟩ => ⟨q, he, fun a ha => ha.same hq, hf⟩)
    · have hne : W ≠ W' ∨ H ≠ H' := by by_cases h : W = W' <;> simp_all
      refine ⟨0, ShP (1 : Int) (0 : Int), fun w v v' hv hv' => ?_, Or.inr ⟨⟨h1, h2⟩, rfl, fun w v v' hv hv' => ?_⟩⟩
      · exact (unlike_far W H W' H' v v' P Q w (hvb w v hv) (hvb' w v' hv') hne).mono (fun e w' h => ⟨_, h.1, inf_share, h.2⟩)
      · exact (runlike_far W H W' H' v v' w hne).mono (fun e w' ⟨q, he, hq, hf⟩ => ⟨q, he, fun a ha => ha.same hq, hf⟩)
end Go.Proofs.Ytodgdbbhllejkaa
