/- The table of 'TrailingZeros64', as the card lays it; the law's script opened. -/
import Derived.Test.YtflhbmapikdmhaaDoorYk
import Derived.Test.YtflhbmapikdmhaaDoorTie
import Derived.Test.YtflhbmapikdmhaaDoorCards
import Derived.LaidMore
import Derived.Stop.Joined
import Derived.SevenTiedAt
import Derived.ProofKit
import Derived.OpenShut
import Derived.ChangeOld
import Derived.Lib.SmallJoins
import Derived.Deep.Slices
import Derived.Deep.Strs
namespace Go.Proofs.YtflhbmapikdmhaaDoor
open Go.ChangeShapes Go.WideShapes Go.ChangeAt Go.RowKit

theorem Tryd.own : ownKnob Tryd.prog.godebug = none := by kernel_rfl
theorem Tryd.laidOut : laidOutB Tryd.prog = true := by kernel_rfl
theorem Tryd.cells39 : Tryd.prog.cellsOf 39 = 3 := by kernel_rfl
theorem Tryd.cells3 : Tryd.prog.cellsOf 3 = 1 := by kernel_rfl
theorem Tryd.cells37 : Tryd.prog.cellsOf 37 = 1 := by kernel_rfl
theorem addr_add (b off j : Nat) : (⟨b, off, none⟩ : Addr).add j = ⟨b, off + j, none⟩ := by
  unfold Addr.add; split <;> simp_all

theorem open_ws {H : Type} {enc : TypeId × Value → H} {W : World} {fuel : Nat} {sp : Nat → Bool} {hd : Bool} {v : Value} {x : DataW H × List MemPlace} (h : DataW.trod enc Tryd.prog W 0 sp hd fuel 37 [v] = some x) :
    ∃ l : List Nat, Seen W v l ∧ CapOK v ∧ ∀ j : Nat, l[j]?.getD 0 < 18446744073709551616 := by
  rcases open_ints Tryd.underlying37 Tryd.underlying77 (by kernel_rfl) h with ⟨hcs, _⟩ | ⟨x, l, c, zs, hcs, _, hl, hm, hz, _, hcell, hwz⟩
  · simp at hcs
    subst hcs
    exact ⟨[], ⟨none, 0, rfl, by simp, fun hn => absurd rfl hn⟩, fun ao n c e => by cases e; exact ⟨by omega, by omega⟩, fun j => by simp⟩
  · simp at hcs
    subst hcs
    have hlz : l ≤ zs.length := by
      have := hz
      split at this <;> omega
    have hb : ∀ z ∈ zs, 0 ≤ z ∧ z ≤ 18446744073709551615 := fun z hmem => bounds_u64 (hwz _ hmem)
    have hlen : ((zs.take l).map Int.toNat).length = l := by simp; omega
    refine ⟨(zs.take l).map Int.toNat, ⟨some x, c, by rw [hlen], by rw [hlen]; unfold maxLen at hm; omega, fun hn => ?_⟩, fun ao n c' e => by cases e; exact ⟨hl, hm⟩, fun j => ?_⟩
    · have hl0 : 0 < l := by
        rcases Nat.eq_zero_or_pos l with h0 | h0
        · subst h0; simp at hn
        · exact h0
      obtain ⟨b, off, spot⟩ := x
      have hspot : spot = none := by
        have := World.cell?_spot (hcell 0 (by omega))
        simpa [Addr.add] using this
      subst hspot
      refine ⟨b, off, rfl, fun j hj => ?_⟩
      rw [hlen] at hj
      have h1 := hcell j (by omega)
      rw [addr_add] at h1
      rw [h1]
      have h2 : (zs.take l)[j]? = some (zs.getD j 0) := by
        rw [List.getElem?_take_of_lt hj, List.getD_eq_getElem?_getD, List.getElem?_eq_getElem (by omega)]; rfl
      have h3 : 0 ≤ zs.getD j 0 := by
        have hmem : zs.getD j 0 ∈ zs := by
          rw [List.getD_eq_getElem?_getD, List.getElem?_eq_getElem (by omega)]; exact List.getElem_mem _
        exact (hb _ hmem).1
      rw [List.getElem?_map, h2]
      simp only [Option.map_some, Option.getD_some, Int.toNat_of_nonneg h3]
    · rw [List.getElem?_map]
      by_cases hj : j < (zs.take l).length
      · rw [List.getElem?_eq_getElem hj]
        simp only [Option.map_some, Option.getD_some]
        have := hb _ (List.mem_of_mem_take (List.getElem_mem hj))
        omega
      · rw [List.getElem?_eq_none (by omega)]; simp

set_option maxRecDepth 100000 in
theorem bm_elem {H : Type} {enc : TypeId × Value → H} {W : World} {n : Nat} {sp : Nat → Bool} {hd : Bool} {cs : List Value} {x : DataW H × List MemPlace} (h : DataW.trod enc Tryd.prog W 0 sp hd n 39 cs = some x) :
    ∃ (a b : Int) (v : Value) (l : List Nat), cs = [.int .i64 a, .int .i64 b, v] ∧ (-9223372036854775808 ≤ a ∧ a ≤ 9223372036854775807) ∧ (-9223372036854775808 ≤ b ∧ b ≤ 9223372036854775807) ∧ Seen W v l ∧ CapOK v ∧ ∀ j : Nat, l[j]?.getD 0 < 18446744073709551616 := by
  obtain ⟨y0, y1, y2, m, _, hlen, t0, t1, t2⟩ := Deep.trod_struct3 Tryd.underlying39 h
  rw [Tryd.cells39] at hlen
  obtain ⟨a, b, c, rfl⟩ : ∃ a b c, cs = [a, b, c] := by
    match cs, hlen with
    | [a, b, c], _ => exact ⟨a, b, c, rfl⟩
  simp only [Tryd.cells3, Tryd.cells37] at t0 t1 t2
  obtain ⟨k0, e0, _, w0⟩ := DataW.trod_int Tryd.underlying3 t0
  obtain ⟨k1, e1, _, w1⟩ := DataW.trod_int Tryd.underlying3 t1
  simp at e0 e1
  subst e0; subst e1
  obtain ⟨l, hl1, hl0, hl2⟩ := open_ws t2
  have b0 := bounds_i64 w0
  have b1 := bounds_i64 w1
  exact ⟨k0, k1, c, l, rfl, by omega, by omega, hl1, hl0, hl2⟩



theorem range_get {α : Type} (f : Nat → α) (d : α) {n j : Nat} (h : j < n) : ((List.range n).map f)[j]?.getD d = f j := by
  rw [List.getElem?_map, List.getElem?_range h]; rfl

set_option maxRecDepth 100000 in
theorem ws_nil {H : Type} {enc : TypeId × Value → H} {W : World} {fuel : Nat} {sp : Nat → Bool} {hd : Bool} {v : Value} {x : DataW H × List MemPlace} (h : DataW.trod enc Tryd.prog W 0 sp hd fuel 37 [v] = some x) : NilOK v := by
  rcases open_ints Tryd.underlying37 Tryd.underlying77 (by kernel_rfl) h with ⟨hcs, _⟩ | ⟨x, l, c, zs, hcs, _⟩
  · simp at hcs
    subst hcs
    intro n c e
    cases e
    exact ⟨rfl, rfl⟩
  · simp at hcs
    subst hcs
    intro n c e
    cases e

set_option maxRecDepth 100000 in
theorem bm_nil {H : Type} {enc : TypeId × Value → H} {W : World} {n : Nat} {sp : Nat → Bool} {hd : Bool} {a b v : Value} {x : DataW H × List MemPlace} (h : DataW.trod enc Tryd.prog W 0 sp hd n 39 [a, b, v] = some x) : NilOK v := by
  obtain ⟨y0, y1, y2, m, _, hlen, t0, t1, t2⟩ := Deep.trod_struct3 Tryd.underlying39 h
  simp only [Tryd.cells3, Tryd.cells37] at t0 t1 t2
  exact ws_nil t2

theorem Tryd.cells31 : Tryd.prog.cellsOf 31 = 11 := by kernel_rfl
theorem Tryd.cells29 : Tryd.prog.cellsOf 29 = 8 := by kernel_rfl
theorem Tryd.cells25 : Tryd.prog.cellsOf 25 = 2 := by kernel_rfl
theorem Tryd.cells22 : Tryd.prog.cellsOf 22 = 1 := by kernel_rfl
theorem Tryd.cells23 : Tryd.prog.cellsOf 23 = 1 := by kernel_rfl

set_option maxRecDepth 100000 in
theorem int_of {H : Type} {enc : TypeId × Value → H} {W : World} {n : Nat} {sp : Nat → Bool} {hd : Bool} {a : Value} {o : Option (DataW H × List MemPlace)} (h : DataW.trod enc Tryd.prog W 0 sp hd n 3 [a] = o) (hs : o.isSome = true) :
    ∃ k : Int, a = .int .i64 k ∧ I64 k := by
  obtain ⟨x, rfl⟩ := Option.isSome_iff_exists.1 hs
  obtain ⟨k, e, _, w0⟩ := DataW.trod_int Tryd.underlying3 h
  simp at e
  have b := bounds_i64 w0
  exact ⟨k, e, by unfold I64; omega⟩

set_option maxRecDepth 100000 in
theorem op_elem {H : Type} {enc : TypeId × Value → H} {W : World} {n : Nat} {sp : Nat → Bool} {hd : Bool} {cs : List Value} {x : DataW H × List MemPlace} (h : DataW.trod enc Tryd.prog W 0 sp hd n 31 cs = some x) :
    ∃ f : Nat → Int, ∀ c, c < 11 → cs[c]? = some (.int .i64 (f c)) ∧ I64 (f c) := by
  obtain ⟨y0, y1, y2, y3, m, _, hlen, t0, t1, t2, t3⟩ := Joins.trod_struct4 Tryd.underlying31 h
  rw [Tryd.cells31] at hlen
  simp only [Tryd.cells3, Tryd.cells29] at t0 t1 t2 t3
  obtain ⟨xs, k, _, _, hl8, hxs, hel⟩ := DataW.trod_array Tryd.underlying29 t3
  clear hl8 t3
  match cs, hlen with
  | [a0, a1, a2, a3, a4, a5, a6, a7, a8, a9, a10], _ =>
    obtain ⟨m0, rfl, g0⟩ := int_of (a := a0) t0 rfl
    obtain ⟨m1, rfl, g1⟩ := int_of (a := a1) t1 rfl
    obtain ⟨m2, rfl, g2⟩ := int_of (a := a2) t2 rfl
    obtain ⟨m3, rfl, g3⟩ := int_of (a := a3) (o := xs[0]?) (by simpa [Tryd.cells3] using hel 0 (by omega)) (by simp [hxs])
    obtain ⟨m4, rfl, g4⟩ := int_of (a := a4) (o := xs[1]?) (by simpa [Tryd.cells3] using hel 1 (by omega)) (by simp [hxs])
    obtain ⟨m5, rfl, g5⟩ := int_of (a := a5) (o := xs[2]?) (by simpa [Tryd.cells3] using hel 2 (by omega)) (by simp [hxs])
    obtain ⟨m6, rfl, g6⟩ := int_of (a := a6) (o := xs[3]?) (by simpa [Tryd.cells3] using hel 3 (by omega)) (by simp [hxs])
    obtain ⟨m7, rfl, g7⟩ := int_of (a := a7) (o := xs[4]?) (by simpa [Tryd.cells3] using hel 4 (by omega)) (by simp [hxs])
    obtain ⟨m8, rfl, g8⟩ := int_of (a := a8) (o := xs[5]?) (by simpa [Tryd.cells3] using hel 5 (by omega)) (by simp [hxs])
    obtain ⟨m9, rfl, g9⟩ := int_of (a := a9) (o := xs[6]?) (by simpa [Tryd.cells3] using hel 6 (by omega)) (by simp [hxs])
    obtain ⟨m10, rfl, g10⟩ := int_of (a := a10) (o := xs[7]?) (by simpa [Tryd.cells3] using hel 7 (by omega)) (by simp [hxs])
    refine ⟨fun c => [m0, m1, m2, m3, m4, m5, m6, m7, m8, m9, m10].getD c 0, fun c hc => ?_⟩
    match c, hc with
    | 0, _ => exact ⟨rfl, g0⟩
    | 1, _ => exact ⟨rfl, g1⟩
    | 2, _ => exact ⟨rfl, g2⟩
    | 3, _ => exact ⟨rfl, g3⟩
    | 4, _ => exact ⟨rfl, g4⟩
    | 5, _ => exact ⟨rfl, g5⟩
    | 6, _ => exact ⟨rfl, g6⟩
    | 7, _ => exact ⟨rfl, g7⟩
    | 8, _ => exact ⟨rfl, g8⟩
    | 9, _ => exact ⟨rfl, g9⟩
    | 10, _ => exact ⟨rfl, g10⟩

set_option maxRecDepth 100000 in
theorem open_ops {H : Type} {enc : TypeId × Value → H} {W : World} {fuel : Nat} {sp : Nat → Bool} {hd : Bool} {v : Value} {x : DataW H × List MemPlace} (h : DataW.trod enc Tryd.prog W 0 sp hd fuel 23 [v] = some x) :
    ∃ bo nb cb O, v = .slice bo nb cb ∧ OpsAt W bo nb O := by
  rcases Deep.open_slice Tryd.underlying23 h with ⟨hcs, _⟩ | ⟨a, len, cap, m, f, D, Pl, hcs, _, hlc, hmx, hm, _, hel⟩
  · simp at hcs
    subst hcs
    exact ⟨none, 0, 0, fun _ _ => 0, rfl, by omega, fun h => absurd h (by omega)⟩
  · simp at hcs
    subst hcs
    have hlm : len ≤ m := by rw [hm]; split <;> omega
    have hex : ∀ i, i < len → ∃ y : Nat → Int, ∀ c, c < 11 → W.cell? ((a.add (i * 11)).add c) = some (.int .i64 (y c)) ∧ I64 (y c) := by
      intro i hi
      obtain ⟨cs', hc, ht⟩ := hel i (by omega)
      obtain ⟨y, hy⟩ := op_elem ht
      rw [Tryd.cells31] at hc
      have hcc := World.cells?_some hc
      refine ⟨y, fun c hc' => ⟨?_, (hy c hc').2⟩⟩
      exact (hcc.2.2 c (by omega)).trans (hy c hc').1
    have hinh : Inhabited (Nat → Int) := ⟨fun _ => 0⟩
    obtain ⟨f, hf⟩ := Deep.choose_lt hex
    refine ⟨some a, len, cap, f, rfl, by unfold maxLen at hmx; omega, fun hn => ?_⟩
    obtain ⟨b, off, spot⟩ := a
    have hspot : spot = none := by
      have := World.cell?_spot (hf 0 hn 0 (by omega)).1
      simpa [Addr.add] using this
    subst hspot
    refine ⟨b, off, rfl, fun j hj c hc => ?_⟩
    have := hf j hj c hc
    simp only [addr_add] at this
    exact this

set_option maxRecDepth 100000 in
theorem open_bps1 {H : Type} {enc : TypeId × Value → H} {W : World} {fuel : Nat} {v : Value} {x : DataW H × List MemPlace} (h : DataW.trod enc Tryd.prog W 0 (fun _ => true) true fuel 22 [v] = some x) :
    ∃ ao n cap A, v = .slice ao n cap ∧ BpsAt W ao n A := by
  rcases Deep.open_slice Tryd.underlying22 h with ⟨hcs, _⟩ | ⟨a, len, cap, m, f, D, Pl, hcs, _, hlc, hmx, hm, _, hel⟩
  · simp at hcs
    subst hcs
    exact ⟨none, 0, 0, fun _ => ⟨0, 0, .slice none 0 0, []⟩, rfl, by omega, by omega, by omega⟩
  · simp at hcs
    subst hcs
    have hlm : len ≤ m := by rw [hm]; split <;> omega
    have hex : ∀ i, i < len → ∃ y : Bp, (W.cell? ((a.add (i * 3)).add 0) = some (.int .i64 y.x) ∧ W.cell? ((a.add (i * 3)).add 1) = some (.int .i64 y.y) ∧ W.cell? ((a.add (i * 3)).add 2) = some y.v) ∧ BpOK W y := by
      intro i hi
      obtain ⟨cs', hc, ht⟩ := hel i (by omega)
      obtain ⟨x, y, v, l, rfl, b1, b2, b3, b4, b5⟩ := bm_elem ht
      rw [Tryd.cells39] at hc
      have hcc := (World.cells?_some hc).2.2
      exact ⟨⟨x, y, v, l⟩, ⟨hcc 0 (by omega), hcc 1 (by omega), hcc 2 (by omega)⟩, b1, b2, b3, bm_nil ht, b4, b5⟩
    have hinh : Inhabited Bp := ⟨⟨0, 0, .slice none 0 0, []⟩⟩
    obtain ⟨f, hf⟩ := Deep.choose_lt hex
    refine ⟨some a, len, cap, f, rfl, by unfold maxLen at hmx; omega, fun hn => ?_, fun i hi => (hf i hi).2⟩
    obtain ⟨b, off, spot⟩ := a
    have hspot : spot = none := by
      have := World.cell?_spot (hf 0 hn).1.1
      simpa [Addr.add] using this
    subst hspot
    refine ⟨b, off, rfl, fun j hj => ?_⟩
    have := (hf j hj).1
    simp only [addr_add] at this
    exact this

set_option maxRecDepth 100000 in
theorem open_exact {H : Type} {enc : TypeId × Value → H} {W : World} {base : Nat} {v0 : Value} {d0 : DataW H} {p0 : List MemPlace} (hv : Value.okWide Tryd.prog W .any base 25 v0) (h0 : DataW.Trod enc Tryd.prog W 0 (fun _ => true) true 25 v0 d0 p0) :
    ∃ ao n cap A bo nb cb O, v0 = .agg #[.slice ao n cap, .slice bo nb cb] ∧ BpsAt W ao n A ∧ OpsAt W bo nb O := by
  obtain ⟨cs, rfl, hsz⟩ := okWide_struct Tryd.underlying25 hv
  obtain ⟨fuel, hf⟩ := h0
  obtain ⟨y0, y1, m, _, hlen, t0, t1⟩ := trod_struct2 Tryd.underlying25 hf
  obtain ⟨L⟩ := cs
  simp only [Value.cells] at hlen t0 t1
  rw [Tryd.cells25] at hlen
  obtain ⟨a, b, rfl⟩ : ∃ a b, L = [a, b] := by
    match L, hlen with
    | [a, b], _ => exact ⟨a, b, rfl⟩
  simp only [Tryd.cells22, Tryd.cells23] at t0 t1
  obtain ⟨ao, n, cap, A, e0, hb⟩ := open_bps1 t0
  obtain ⟨bo, nb, cb, O, e1, ho⟩ := open_ops t1
  subst e0
  subst e1
  exact ⟨ao, n, cap, A, bo, nb, cb, O, rfl, hb, ho⟩

theorem gTab : Tryd.prog.globalNamed "math/bits.deBruijn64tab" = some 0 := by kernel_rfl
theorem tTab : (Tryd.prog.globals[0]?).map (·.type) = some 97 := by kernel_rfl
def tabL : List Nat := [0, 1, 56, 2, 57, 49, 28, 3, 61, 58, 42, 50, 38, 29, 17, 4, 62, 47, 59, 36, 45, 43, 51, 22, 53, 39, 33, 30, 24, 18, 12, 5, 63, 55, 48, 27, 60, 41, 37, 16, 46, 35, 44, 21, 52, 32, 23, 11, 54, 26, 40, 15, 34, 20, 31, 10, 25, 14, 19, 9, 13, 8, 7, 6]
theorem laid_tab : (Rows.laid_math_bits_deBruijn64tab : DataW Unit) = .agg (tabL.map fun (k : Nat) => .lit (.int .u8 (k : Int))) := rfl
theorem tab_ok : ∀ t, t < 64 → tabL[tabAt t]? = some t := by decide +kernel
theorem Tryd.cells5 : Tryd.prog.cellsOf 5 = 1 := by kernel_rfl

theorem of_laid {W : World} (h : laidMetH Tryd.prog Rows.bitmapExactRow.laid W) : Tab W ∧ 0 < W.heap.size := by
  rw [MakeChecks.laidMetH_plain _ _ _ (by kernel_rfl)] at h
  obtain ⟨ps, ⟨g0, t0, cs0, f0, p0, q0, hg0, ht0, hv0, hd0, _, _⟩, _, _⟩ := h
  obtain rfl := Option.some.inj (gTab.symm.trans hg0)
  obtain rfl := Option.some.inj (tTab.symm.trans ht0)
  obtain ⟨xs, m1, h1, h2, h3, h4, hel⟩ := DataW.trod_array Tryd.underlying97 hd0
  have hcell : ∀ j : Nat, W.cell? ⟨0, j, none⟩ = cs0[j]? := fun j => World.var?_cell hg0 hv0 j
  have hmap : xs.map (fun x => x.fst) = tabL.map fun (k : Nat) => DataW.lit (.int .u8 (k : Int)) := by
    have := congrArg Prod.fst h2
    rw [laid_tab] at this
    simp only [DataW.agg.injEq] at this
    exact this.symm
  have key : ∀ i, i < 64 → ∀ k : Nat, tabL[i]? = some k → W.cell? ⟨0, i, none⟩ = some (.int .u8 (k : Int)) := by
    intro i hi k hk
    have hx := List.getElem?_eq_getElem (l := xs) (i := i) (by omega)
    have h5 := hel i hi
    rw [hx, Tryd.cells5, Nat.mul_one] at h5
    obtain ⟨k', e1, e2, _⟩ := DataW.trod_int Tryd.underlying5 h5
    have h6 := congrArg (fun l => l[i]?) hmap
    simp only [List.getElem?_map, hx, hk, Option.map_some, Option.some.injEq] at h6
    rw [e2] at h6
    simp at h6
    have h7 : cs0.toList[i]? = some (.int .u8 k') := by
      have := congrArg (fun l => l[0]?) e1
      simpa [List.getElem?_take, List.getElem?_drop] using this
    rw [hcell i, ← Array.getElem?_toList, h7, h6]
  refine ⟨fun t ht => key _ (tabAt_lt t) t (tab_ok t ht), ?_⟩
  have := key 0 (by omega) 0 rfl
  exact World.block_lt_of_cell? W ⟨0, 0, none⟩ this

end Go.Proofs.YtflhbmapikdmhaaDoor
