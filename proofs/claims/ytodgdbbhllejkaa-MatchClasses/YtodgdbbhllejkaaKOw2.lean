/- The laws' argument, opened, with the sizes that memory holds. -/
import Derived.Test.YtodgdbbhllejkaaKOa
import Derived.SizedLaws
namespace Go.Proofs.Ytodgdbbhllejkaa
open Go.ChangeShapes Go.WideShapes Go.ChangeAt Go.RowKit

theorem weightsAll_mem {H : Type} {P : Program} {e : TypeId} : ∀ {l : List (DataW H)} {d : DataW H}, d ∈ l → ∀ n ∈ d.weights P e, n ∈ DataW.weightsAll P e l
  | d0 :: l, d, hd, n, hn => by
    simp only [DataW.weightsAll, List.mem_append]
    rcases List.mem_cons.1 hd with rfl | hd
    · exact Or.inl hn
    · exact Or.inr (weightsAll_mem hd n hn)
theorem Try.bytes23 : Try.prog.bytesOf 23 = 8 := by kernel_rfl

set_option maxRecDepth 100000 in
theorem bm_len {H : Type} {enc : TypeId × Value → H} {W : World} {n : Nat} {a b : Int} {v : Value} {l : List Nat} {x : DataW H × List MemPlace} (h : DataW.trod enc Try.prog W 0 (fun _ => true) true n 48 [.int .i64 a, .int .i64 b, v] = some x) (hw : ∀ k ∈ x.1.weights Try.prog 48, k ≤ reachBytes) (hs : Seen W v l) : l.length ≤ 17592186044416 := by
  obtain ⟨y0, y1, y2, m, hx, hlen, t0, t1, t2⟩ := Deep.trod_struct3 Try.underlying48 h
  simp only [Try.cells3, Try.cells46] at t0 t1 t2
  simp at t2
  obtain ⟨ao, c, rfl, -, -⟩ := hs
  rcases Deep.open_slice Try.underlying46 t2 with ⟨hcs, _⟩ | ⟨a', len0, cap0, m', f, D, Pl, hcs, _, hlc, hmx, hm, hx2, hel⟩
  · simp at hcs
    simp [hcs.2.1]
  · simp at hcs
    obtain ⟨-, rfl, -⟩ := hcs
    have h1 := hw ((l.length + (m' - l.length)) * Try.prog.bytesOf 23) (by rw [hx]; simp [DataW.weights, DataW.weightsEach, Try.underlying48, Try.underlying46, hx2])
    rw [Try.bytes23] at h1
    simp only [reachBytes] at h1
    omega

set_option maxRecDepth 100000 in
theorem bps_elemW {H : Type} {enc : TypeId × Value → H} {W : World} {fuel : Nat} {v : Value} {x : DataW H × List MemPlace} (h : DataW.trod enc Try.prog W 0 (fun _ => true) true fuel 22 [v] = some x) (hw : ∀ k ∈ x.1.weights Try.prog 22, k ≤ reachBytes) :
    ∃ ao n cap A, v = .slice ao n cap ∧ BpsAt W ao n A ∧ n ≤ cap ∧ (ao = none → n = 0) ∧ ∀ j, j < n → (A j).l.length ≤ 17592186044416 := by
  rcases Deep.open_slice Try.underlying22 h with ⟨hcs, _⟩ | ⟨a, len0, cap0, m, f, D, Pl, hcs, _, hlc, hmx, hm, hx, hel⟩
  · simp at hcs
    subst hcs
    exact ⟨none, 0, 0, fun _ => ⟨0, 0, .slice none 0 0, []⟩, rfl, ⟨by omega, by omega, by omega⟩, Nat.le_refl _, fun _ => rfl, fun j hj => absurd hj (Nat.not_lt_zero _)⟩
  · simp at hcs
    subst hcs
    have hlm : len0 ≤ m := by rw [hm]; split <;> omega
    have hex : ∀ i, i < len0 → ∃ y : Bp, (W.cell? ((a.add (i * 3)).add 0) = some (.int .i64 y.x) ∧ W.cell? ((a.add (i * 3)).add 1) = some (.int .i64 y.y) ∧ W.cell? ((a.add (i * 3)).add 2) = some y.v) ∧ BpOK W y ∧ y.l.length ≤ 17592186044416 := by
      intro i hi
      obtain ⟨cs', hc, ht⟩ := hel i (by omega)
      obtain ⟨x, y, v, l, rfl, b1, b2, b3, b4, b5⟩ := bm_elem ht
      have hlen := bm_len ht (fun k hk => hw k (by
        rw [hx]
        simp only [DataW.weights, Try.underlying22, List.mem_cons, List.mem_append]
        exact Or.inr (Or.inl (weightsAll_mem (List.mem_map.2 ⟨i, List.mem_range.2 hi, rfl⟩) k hk)))) b3
      rw [Try.cells48] at hc
      have hcc := (World.cells?_some hc).2.2
      exact ⟨⟨x, y, v, l⟩, ⟨hcc 0 (by omega), hcc 1 (by omega), hcc 2 (by omega)⟩, ⟨b1, b2, b3, b4, bm_nil ht, b5⟩, hlen⟩
    have hinh : Inhabited Bp := ⟨⟨0, 0, .slice none 0 0, []⟩⟩
    obtain ⟨f, hf⟩ := Deep.choose_lt hex
    refine ⟨some a, len0, cap0, f, rfl, ⟨by unfold maxLen at hmx; omega, fun hn => ?_, fun i hi => (hf i hi).2.1⟩, hlc, fun e => (by cases e), fun i hi => (hf i hi).2.2⟩
    obtain ⟨b, off, spot⟩ := a
    have hspot : spot = none := by
      have := World.cell?_spot (hf 0 hn).1.1
      simpa [Addr.add] using this
    subst hspot
    refine ⟨b, off, rfl, fun j hj => ?_⟩
    have := (hf j hj).1
    simp only [addr_add] at this
    exact this
set_option maxRecDepth 100000 in
theorem open_askW {H : Type} {enc : TypeId × Value → H} {W : World} {base : Nat} {v0 : Value} {d0 : DataW H} {p0 : List MemPlace} (hv : Value.okWide Try.prog W .any base 25 v0) (h0 : DataW.Trod enc Try.prog W 0 (fun _ => true) true 25 v0 d0 p0) (hw : ∀ k ∈ d0.weights Try.prog 25, k ≤ reachBytes) :
    ∃ (ao : Option Addr) (n cap T : Nat) (A : Nat → Bp), v0 = .agg #[.slice ao n cap, .int .u64 (T : Int)] ∧ BpsAt W ao n A ∧ n ≤ cap ∧ (ao = none → n = 0) ∧ T < 18446744073709551616 ∧ ∀ j, j < n → (A j).l.length ≤ 17592186044416 := by
  obtain ⟨cs, rfl, hsz⟩ := okWide_struct Try.underlying25 hv
  obtain ⟨fuel, hf⟩ := h0
  obtain ⟨y0, y1, m, hx, hlen, t0, t1⟩ := trod_struct2 Try.underlying25 hf
  rw [Try.cells25] at hlen
  obtain ⟨L⟩ := cs
  obtain ⟨a, b, rfl⟩ : ∃ a b, L = [a, b] := by
    match L, hlen with
    | [a, b], _ => exact ⟨a, b, rfl⟩
  simp [Value.cells, Try.cells22, Try.cells23] at t0 t1
  obtain ⟨k1, e1, _, w1⟩ := DataW.trod_int Try.underlying23 t1
  simp at e1
  subst e1
  obtain ⟨ao, n, cap, A, rfl, hB, hc, hnl, hll⟩ := bps_elemW t0 (fun k hk => hw k (by
    simp only [Prod.mk.injEq] at hx
    rw [hx.1]
    simp only [DataW.weights, Try.underlying25, List.map_cons, List.map_nil, DataW.weightsEach, List.mem_append]
    exact Or.inl hk))
  have hb := bounds_u64 w1
  exact ⟨ao, n, cap, k1.toNat, A, by rw [Int.toNat_of_nonneg hb.1], hB, hc, hnl, by omega, hll⟩

end Go.Proofs.Ytodgdbbhllejkaa
