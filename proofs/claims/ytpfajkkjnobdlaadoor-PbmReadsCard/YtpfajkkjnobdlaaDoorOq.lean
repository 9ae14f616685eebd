/- The library's table, as the card lays it; arguments opened. -/
import Derived.Test.YtpfajkkjnobdlaaDoorWa
import Derived.Test.YtpfajkkjnobdlaaDoorTie
import Derived.Test.YtpfajkkjnobdlaaDoorCards
import Derived.LaidMore
import Derived.Stop.Joined
import Derived.SevenTiedAt
import Derived.ProofKit
import Derived.OpenShut
import Derived.ChangeOld
import Derived.Lib.SmallJoins
import Derived.Deep.Slices
import Derived.Deep.Strs
namespace Go.Proofs.YtpfajkkjnobdlaaDoor
open Go.ChangeShapes Go.WideShapes Go.ChangeAt Go.RowKit
set_option maxRecDepth 100000

theorem Tryd.own : ownKnob Tryd.prog.godebug = none := by kernel_rfl
theorem Tryd.laidOut : laidOutB Tryd.prog = true := by kernel_rfl
theorem Tryd.cells25 : Tryd.prog.cellsOf 25 = 3 := by kernel_rfl
theorem Tryd.cells3 : Tryd.prog.cellsOf 3 = 1 := by kernel_rfl
theorem Tryd.cells23 : Tryd.prog.cellsOf 23 = 1 := by kernel_rfl
theorem Tryd.cells50 : Tryd.prog.cellsOf 50 = 1 := by kernel_rfl
theorem Tryd.cells27 : Tryd.prog.cellsOf 27 = 1 := by kernel_rfl

theorem addr_add (b off j : Nat) : (⟨b, off, none⟩ : Addr).add j = ⟨b, off + j, none⟩ := by
  unfold Addr.add; split <;> simp_all

theorem open_ws {H : Type} {enc : TypeId × Value → H} {W : World} {fuel : Nat} {sp : Nat → Bool} {hd : Bool} {v : Value} {x : DataW H × List MemPlace} (h : DataW.trod enc Tryd.prog W 0 sp hd fuel 23 [v] = some x) :
    ∃ l : List Nat, Seen W v l ∧ ∀ j : Nat, l[j]?.getD 0 < 18446744073709551616 := by
  rcases open_ints Tryd.underlying23 Tryd.underlying50 (by kernel_rfl) h with ⟨hcs, _⟩ | ⟨x, l, c, zs, hcs, _, hl, hm, hz, _, hcell, hwz⟩
  · simp at hcs
    subst hcs
    exact ⟨[], ⟨none, 0, rfl, by simp, fun hn => absurd rfl hn⟩, fun j => by simp⟩
  · simp at hcs
    subst hcs
    have hlz : l ≤ zs.length := by
      have := hz
      split at this <;> omega
    have hb : ∀ z ∈ zs, 0 ≤ z ∧ z ≤ 18446744073709551615 := fun z hmem => bounds_u64 (hwz _ hmem)
    have hlen : ((zs.take l).map Int.toNat).length = l := by simp; omega
    refine ⟨(zs.take l).map Int.toNat, ⟨some x, c, by rw [hlen], by rw [hlen]; unfold maxLen at hm; omega, fun hn => ?_⟩, fun j => ?_⟩
    · have hl0 : 0 < l := by
        rcases Nat.eq_zero_or_pos l with h0 | h0
        · subst h0; simp at hn
        · exact h0
      obtain ⟨b, off, spot⟩ := x
      have hspot : spot = none := by
        have := World.cell?_spot (hcell 0 (by omega))
        simpa [Addr.add] using this
      subst hspot
      refine ⟨b, off, rfl, fun j hj => ?_⟩
      rw [hlen] at hj
      have h1 := hcell j (by omega)
      rw [addr_add] at h1
      rw [h1]
      have h2 : (zs.take l)[j]? = some (zs.getD j 0) := by
        rw [List.getElem?_take_of_lt hj, List.getD_eq_getElem?_getD, List.getElem?_eq_getElem (by omega)]; rfl
      have h3 : 0 ≤ zs.getD j 0 := by
        have hmem : zs.getD j 0 ∈ zs := by
          rw [List.getD_eq_getElem?_getD, List.getElem?_eq_getElem (by omega)]; exact List.getElem_mem _
        exact (hb _ hmem).1
      rw [List.getElem?_map, h2]
      simp only [Option.map_some, Option.getD_some, Int.toNat_of_nonneg h3]
    · rw [List.getElem?_map]
      by_cases hj : j < (zs.take l).length
      · rw [List.getElem?_eq_getElem hj]
        simp only [Option.map_some, Option.getD_some]
        have := hb _ (List.mem_of_mem_take (List.getElem_mem hj))
        omega
      · rw [List.getElem?_eq_none (by omega)]; simp

theorem bm_elem {H : Type} {enc : TypeId × Value → H} {W : World} {n : Nat} {sp : Nat → Bool} {hd : Bool} {cs : List Value} {x : DataW H × List MemPlace} (h : DataW.trod enc Tryd.prog W 0 sp hd n 25 cs = some x) :
    ∃ (a b : Int) (v : Value) (l : List Nat), cs = [.int .i64 a, .int .i64 b, v] ∧ (-9223372036854775808 ≤ a ∧ a ≤ 9223372036854775807) ∧ (-9223372036854775808 ≤ b ∧ b ≤ 9223372036854775807) ∧ Seen W v l ∧ ∀ j : Nat, l[j]?.getD 0 < 18446744073709551616 := by
  obtain ⟨y0, y1, y2, m, _, hlen, t0, t1, t2⟩ := Deep.trod_struct3 Tryd.underlying25 h
  rw [Tryd.cells25] at hlen
  obtain ⟨a, b, c, rfl⟩ : ∃ a b c, cs = [a, b, c] := by
    match cs, hlen with
    | [a, b, c], _ => exact ⟨a, b, c, rfl⟩
  simp only [Tryd.cells3, Tryd.cells23] at t0 t1 t2
  obtain ⟨k0, e0, _, w0⟩ := DataW.trod_int Tryd.underlying3 t0
  obtain ⟨k1, e1, _, w1⟩ := DataW.trod_int Tryd.underlying3 t1
  simp at e0 e1
  subst e0; subst e1
  obtain ⟨l, hl1, hl2⟩ := open_ws t2
  have b0 := bounds_i64 w0
  have b1 := bounds_i64 w1
  exact ⟨k0, k1, c, l, rfl, by omega, by omega, hl1, hl2⟩

theorem open_bm {H : Type} {enc : TypeId × Value → H} {W : World} {base : Nat} {v0 : Value} {d0 : DataW H} {p0 : List MemPlace} (hv : Value.okWide Tryd.prog W .any base 25 v0) (h0 : DataW.Trod enc Tryd.prog W 0 (fun _ => true) true 25 v0 d0 p0) :
    ∃ (a b : Int) (v : Value) (l : List Nat), v0 = .agg #[.int .i64 a, .int .i64 b, v] ∧ (-9223372036854775808 ≤ a ∧ a ≤ 9223372036854775807) ∧ (-9223372036854775808 ≤ b ∧ b ≤ 9223372036854775807) ∧ Seen W v l ∧ ∀ j : Nat, l[j]?.getD 0 < 18446744073709551616 := by
  obtain ⟨cs, rfl, hsz⟩ := okWide_struct Tryd.underlying25 hv
  obtain ⟨fuel, hf⟩ := h0
  obtain ⟨a, b, v, l, e0, b1, b2, b3, b4⟩ := bm_elem hf
  obtain ⟨L⟩ := cs
  simp only [Value.cells] at e0
  subst e0
  exact ⟨a, b, v, l, rfl, b1, b2, b3, b4⟩

theorem gTab : Tryd.prog.globalNamed "internal/strconv.uint64pow10" = some 0 := by kernel_rfl
theorem tTab : (Tryd.prog.globals[0]?).map (·.type) = some 97 := by kernel_rfl
theorem laid_tab : (Rows.laid_internal_strconv_uint64pow10 : DataW Unit) = .agg (Lib.pow10Tab.map fun z => .lit (.int .u64 z)) := rfl

theorem of_laid {W : World} (h : laidMetH Tryd.prog Rows.pbmBackRow.laid W) : TabAt W := by
  rw [MakeChecks.laidMetH_plain _ _ _ (by kernel_rfl)] at h
  obtain ⟨ps, h1, h2⟩ := h
  obtain ⟨_, _, _, _, _, q1, _, _, _, _, h1, _⟩ := h1
  obtain ⟨_, _, _, _, _, q2, _, _, _, _, h1, _⟩ := h1
  obtain ⟨g0, t0, cs0, f0, p0, q0, hg0, ht0, hv0, hd0, _, _⟩ := h1
  obtain rfl := Option.some.inj (gTab.symm.trans hg0)
  obtain rfl := Option.some.inj (tTab.symm.trans ht0)
  obtain ⟨xs, m1, h1, h2, h3, h4, hel⟩ := DataW.trod_array Tryd.underlying97 hd0
  have hmap : xs.map (fun x => x.fst) = Lib.pow10Tab.map fun (z : Int) => DataW.lit (.int .u64 z) := by
    have := congrArg Prod.fst h2
    rw [laid_tab] at this
    simp only [DataW.agg.injEq] at this
    exact this.symm
  have hlp : Lib.pow10Tab.length = 20 := by decide +kernel
  have hxl : xs.length = 20 := by
    have := congrArg List.length hmap
    rw [List.length_map, List.length_map, hlp] at this
    exact this
  have hlen : cs0.toList.length = 20 := by rw [h3]; kernel_rfl
  have hall : cs0 = (Lib.pow10Tab.map fun z => Value.int .u64 z).toArray := by
    apply Array.toList_inj.1
    apply List.ext_getElem?
    intro i
    by_cases hi : i < 20
    · have hx := List.getElem?_eq_getElem (l := xs) (i := i) (by omega)
      have h5 := hel i hi
      rw [hx, Tryd.cells50, Nat.mul_one] at h5
      obtain ⟨k', e1, e2, _⟩ := DataW.trod_int Tryd.underlying50 h5
      have h6 := congrArg (fun l => l[i]?) hmap
      have hz := List.getElem?_eq_getElem (l := Lib.pow10Tab) (i := i) (by omega)
      simp only [List.getElem?_map, hx, hz, Option.map_some, Option.some.injEq] at h6
      rw [e2] at h6
      simp at h6
      have h7 : cs0.toList[i]? = some (.int .u64 k') := by
        have := congrArg (fun l => l[0]?) e1
        simpa [List.getElem?_take, List.getElem?_drop] using this
      rw [h7, h6]
      simp [List.getElem?_map, hz]
    · rw [List.getElem?_eq_none (by omega), List.getElem?_eq_none (by simp [hlp]; omega)]
  simp only [World.var?, hg0, Option.bind_some] at hv0
  split at hv0
  · rename_i cs ty ex hb
    cases hv0
    exact TabAt.of_block hg0 hb hall
  · cases hv0
end Go.Proofs.YtpfajkkjnobdlaaDoor
