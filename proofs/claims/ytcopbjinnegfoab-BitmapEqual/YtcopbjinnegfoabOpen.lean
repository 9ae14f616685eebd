/- The arguments of the laws, opened: a list of bitmaps. -/
import Derived.Test.YtcopbjinnegfoabEquals
import Derived.Test.YtcopbjinnegfoabEqual
import Derived.ProofKit
import Derived.OpenShut
import Derived.ChangeOld
import Derived.Lib.SmallJoins
import Derived.Deep.Slices
import Derived.Deep.Strs
namespace Go.Proofs.Ytcopbjinnegfoab
open Go.ChangeShapes Go.WideShapes Go.ChangeAt Go.RowKit

theorem Try.own : ownKnob Try.prog.godebug = none := by kernel_rfl
theorem Try.laidOut : laidOutB Try.prog = true := by kernel_rfl
theorem Try.cells24 : Try.prog.cellsOf 24 = 3 := by kernel_rfl
theorem Try.cells3 : Try.prog.cellsOf 3 = 1 := by kernel_rfl
theorem Try.cells22 : Try.prog.cellsOf 22 = 1 := by kernel_rfl

theorem addr_add (b off j : Nat) : (⟨b, off, none⟩ : Addr).add j = ⟨b, off + j, none⟩ := by
  unfold Addr.add; split <;> simp_all

theorem open_ws {H : Type} {enc : TypeId × Value → H} {W : World} {fuel : Nat} {sp : Nat → Bool} {hd : Bool} {v : Value} {x : DataW H × List MemPlace} (h : DataW.trod enc Try.prog W 0 sp hd fuel 22 [v] = some x) :
    ∃ l : List Nat, Seen W v l ∧ ∀ j : Nat, l[j]?.getD 0 < 18446744073709551616 := by
  rcases open_ints Try.underlying22 Try.underlying46 (by kernel_rfl) h with ⟨hcs, _⟩ | ⟨x, l, c, zs, hcs, _, hl, hm, hz, _, hcell, hwz⟩
  · simp at hcs
    subst hcs
    exact ⟨[], ⟨none, 0, rfl, by simp, fun hn => absurd rfl hn⟩, fun j => by simp⟩
  · simp at hcs
    subst hcs
    have hlz : l ≤ zs.length := by
      have := hz
      split at this <;> omega
    have hb : ∀ z ∈ zs, 0 ≤ z ∧ z ≤ 18446744073709551615 := fun z hmem => bounds_u64 (hwz _ hmem)
    have hlen : ((zs.take l).map Int.toNat).length = l := by simp; omega
    refine ⟨(zs.take l).map Int.toNat, ⟨some x, c, by rw [hlen], by rw [hlen]; unfold maxLen at hm; omega, fun hn => ?_⟩, fun j => ?_⟩
    · have hl0 : 0 < l := by
        rcases Nat.eq_zero_or_pos l with h0 | h0
        · subst h0; simp at hn
        · exact h0
      obtain ⟨b, off, spot⟩ := x
      have hspot : spot = none := by
        have := World.cell?_spot (hcell 0 (by omega))
        simpa [Addr.add] using this
      subst hspot
      refine ⟨b, off, rfl, fun j hj => ?_⟩
      rw [hlen] at hj
      have h1 := hcell j (by omega)
      rw [addr_add] at h1
      rw [h1]
      have h2 : (zs.take l)[j]? = some (zs.getD j 0) := by
        rw [List.getElem?_take_of_lt hj, List.getD_eq_getElem?_getD, List.getElem?_eq_getElem (by omega)]; rfl
      have h3 : 0 ≤ zs.getD j 0 := by
        have hmem : zs.getD j 0 ∈ zs := by
          rw [List.getD_eq_getElem?_getD, List.getElem?_eq_getElem (by omega)]; exact List.getElem_mem _
        exact (hb _ hmem).1
      rw [List.getElem?_map, h2]
      simp only [Option.map_some, Option.getD_some, Int.toNat_of_nonneg h3]
    · rw [List.getElem?_map]
      by_cases hj : j < (zs.take l).length
      · rw [List.getElem?_eq_getElem hj]
        simp only [Option.map_some, Option.getD_some]
        have := hb _ (List.mem_of_mem_take (List.getElem_mem hj))
        omega
      · rw [List.getElem?_eq_none (by omega)]; simp

theorem bm_elem {H : Type} {enc : TypeId × Value → H} {W : World} {n : Nat} {sp : Nat → Bool} {hd : Bool} {cs : List Value} {x : DataW H × List MemPlace} (h : DataW.trod enc Try.prog W 0 sp hd n 24 cs = some x) :
    ∃ (a b : Int) (v : Value) (l : List Nat), cs = [.int .i64 a, .int .i64 b, v] ∧ (-9223372036854775808 ≤ a ∧ a ≤ 9223372036854775807) ∧ (-9223372036854775808 ≤ b ∧ b ≤ 9223372036854775807) ∧ Seen W v l ∧ ∀ j : Nat, l[j]?.getD 0 < 18446744073709551616 := by
  obtain ⟨y0, y1, y2, m, _, hlen, t0, t1, t2⟩ := Deep.trod_struct3 Try.underlying24 h
  rw [Try.cells24] at hlen
  obtain ⟨a, b, c, rfl⟩ : ∃ a b c, cs = [a, b, c] := by
    match cs, hlen with
    | [a, b, c], _ => exact ⟨a, b, c, rfl⟩
  simp only [Try.cells3, Try.cells22] at t0 t1 t2
  obtain ⟨k0, e0, _, w0⟩ := DataW.trod_int Try.underlying3 t0
  obtain ⟨k1, e1, _, w1⟩ := DataW.trod_int Try.underlying3 t1
  simp at e0 e1
  subst e0; subst e1
  obtain ⟨l, hl1, hl2⟩ := open_ws t2
  have b0 := bounds_i64 w0
  have b1 := bounds_i64 w1
  exact ⟨k0, k1, c, l, rfl, by omega, by omega, hl1, hl2⟩

theorem open_bms {H : Type} {enc : TypeId × Value → H} {W : World} {base : Nat} {v0 : Value} {d0 : DataW H} {p0 : List MemPlace} (hv : Value.okWide Try.prog W .any base 30 v0) (h0 : DataW.Trod enc Try.prog W 0 (fun _ => true) true 30 v0 d0 p0) :
    ∃ ao n cap X Y V, ∃ L : Nat → List Nat, v0 = .slice ao n cap ∧ BmAt W ao n X Y V ∧ ∀ i, i < n → (-9223372036854775808 ≤ X i ∧ X i ≤ 9223372036854775807) ∧ (-9223372036854775808 ≤ Y i ∧ Y i ≤ 9223372036854775807) ∧ Seen W (V i) (L i) ∧ ∀ j : Nat, (L i)[j]?.getD 0 < 18446744073709551616 := by
  obtain ⟨a0, len0, cap0, rfl⟩ := okWide_slice Try.underlying30 hv
  obtain ⟨fuel, hf⟩ := h0
  rcases Deep.open_slice Try.underlying30 hf with ⟨hcs, _⟩ | ⟨a, len, cap, m, f, D, Pl, hcs, _, hlc, hmx, hm, _, hel⟩
  · simp [Value.cells] at hcs
    obtain ⟨rfl, rfl, rfl⟩ := hcs
    exact ⟨none, 0, 0, fun _ => 0, fun _ => 0, fun _ => undef, fun _ => [], rfl, ⟨by omega, by omega⟩, by omega⟩
  · simp [Value.cells] at hcs
    obtain ⟨rfl, rfl, rfl⟩ := hcs
    have hlm : len0 ≤ m := by rw [hm]; split <;> omega
    have hex : ∀ i, i < len0 → ∃ y : Int × Int × Value × List Nat, (W.cell? ((a.add (i * 3)).add 0) = some (.int .i64 y.1) ∧ W.cell? ((a.add (i * 3)).add 1) = some (.int .i64 y.2.1) ∧ W.cell? ((a.add (i * 3)).add 2) = some y.2.2.1) ∧
        (-9223372036854775808 ≤ y.1 ∧ y.1 ≤ 9223372036854775807) ∧ (-9223372036854775808 ≤ y.2.1 ∧ y.2.1 ≤ 9223372036854775807) ∧ Seen W y.2.2.1 y.2.2.2 ∧ ∀ j : Nat, (y.2.2.2)[j]?.getD 0 < 18446744073709551616 := by
      intro i hi
      obtain ⟨cs', hc, ht⟩ := hel i (by omega)
      obtain ⟨x, y, v, l, rfl, b0, b1, b2, b3⟩ := bm_elem ht
      rw [Try.cells24] at hc
      have hcc := (World.cells?_some hc).2.2
      exact ⟨(x, y, v, l), ⟨hcc 0 (by omega), hcc 1 (by omega), hcc 2 (by omega)⟩, b0, b1, b2, b3⟩
    obtain ⟨f, hf⟩ := Deep.choose_lt hex
    refine ⟨some a, len0, cap0, fun i => (f i).1, fun i => (f i).2.1, fun i => (f i).2.2.1, fun i => (f i).2.2.2, rfl, ⟨by unfold maxLen at hmx; omega, fun hn => ?_⟩, fun i hi => (hf i hi).2⟩
    obtain ⟨b, off, spot⟩ := a
    have hspot : spot = none := by
      have := World.cell?_spot (hf 0 hn).1.1
      simpa [Addr.add] using this
    subst hspot
    refine ⟨b, off, rfl, fun j hj => ?_⟩
    have := (hf j hj).1
    rw [addr_add, addr_add, addr_add, addr_add] at this
    exact this

theorem qB_eq (x y x2 y2 : Int) (la lb : List Nat) : qB x y x2 y2 la lb = (validB x y la && eqB x y x2 y2 la lb) := by
  unfold qB
  rcases h : eqB x y x2 y2 la lb with _ | _
  · simp
  · unfold eqB at h
    simp at h
    obtain ⟨rfl, rfl, rfl⟩ := h
    simp
theorem eqB_comm (x y x2 y2 : Int) (la lb : List Nat) : eqB x y x2 y2 la lb = eqB x2 y2 x y lb la := by
  rw [Bool.eq_iff_iff]
  unfold eqB
  simp
  constructor
  · rintro ⟨a, b, c⟩; exact ⟨a.symm, b.symm, c.symm⟩
  · rintro ⟨a, b, c⟩; exact ⟨a.symm, b.symm, c.symm⟩
theorem qB_comm (x y x2 y2 : Int) (la lb : List Nat) : qB x y x2 y2 la lb = qB x2 y2 x y lb la := by
  unfold qB
  rw [eqB_comm x y x2 y2 la lb]
  cases validB x y la <;> cases validB x2 y2 lb <;> cases eqB x2 y2 x y lb la <;> rfl

theorem equal_law_any (ao : Option Addr) (n cap : Nat) (X Y : Nat → Int) (V : Nat → Value) (L : Nat → List Nat) (w : World) (ha : BmAt w ao n X Y V)
    (hL : ∀ i, i < n → (-9223372036854775808 ≤ X i ∧ X i ≤ 9223372036854775807) ∧ (-9223372036854775808 ≤ Y i ∧ Y i ≤ 9223372036854775807) ∧ Seen w (V i) (L i) ∧ ∀ j : Nat, (L i)[j]?.getD 0 < 18446744073709551616) :
    Calls Try.prog 4 #[.slice ao n cap] w fun e w' => e = .returned (.bool true) ∧ Fr (fun _ => False) w w' := by
  refine equal_law ao n cap X Y V (fun i => validB (X i) (Y i) (L i)) (fun i k => eqB (X i) (Y i) (X k) (Y k) (L i) (L k)) (fun i k => qB (X i) (Y i) (X k) (Y k) (L i) (L k)) w ha ?_ ?_ ?_ ?_ ?_
  · intro w' i k hi hk hf
    obtain ⟨a1, a2, a3, a4⟩ := hL i hi
    obtain ⟨b1, b2, b3, b4⟩ := hL k hk
    exact equal_any _ _ _ _ _ _ _ _ w' a1 a2 b1 b2 (a3.kept hf) (b3.kept hf) a4 b4
  · intro w' i hi hf
    obtain ⟨a1, a2, a3, a4⟩ := hL i hi
    exact may_any _ _ _ _ w' a1 a2 (a3.kept hf) a4
  · intro w' i k hi hk hf
    obtain ⟨a1, a2, a3, a4⟩ := hL i hi
    obtain ⟨b1, b2, b3, b4⟩ := hL k hk
    exact eqBitmap_any _ _ _ _ _ _ _ _ w' (a3.kept hf) (b3.kept hf)
  · intro i k _ _
    exact qB_eq _ _ _ _ _ _
  · intro i k _ _
    exact qB_comm _ _ _ _ _ _

end Go.Proofs.Ytcopbjinnegfoab
