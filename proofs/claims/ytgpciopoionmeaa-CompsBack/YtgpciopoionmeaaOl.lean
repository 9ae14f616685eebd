/- A 'Laid' opened: pieces, a width, a height; how many pieces there may be. -/
import Derived.Test.YtgpciopoionmeaaOp
import Derived.Test.YtgpciopoionmeaaCb
namespace Go.Proofs.Ytgpciopoionmeaa
open Go.ChangeShapes Go.WideShapes Go.ChangeAt Go.RowKit

theorem Try.cells34 : Try.prog.cellsOf 34 = 5 := by kernel_rfl
theorem Try.cells26p : Try.prog.cellsOf 26 = 1 := by kernel_rfl
theorem Try.cells38 : Try.prog.cellsOf 38 = 3 := by kernel_rfl
theorem Try.bytes34 : Try.prog.bytesOf 34 = 56 := by kernel_rfl
theorem Try.bytes62 : Try.prog.bytesOf 62 = 8 := by kernel_rfl

theorem weightsAll_mem {H : Type} {P : Program} {e : TypeId} : ∀ {l : List (DataW H)} {d : DataW H}, d ∈ l → ∀ n ∈ d.weights P e, n ∈ DataW.weightsAll P e l
  | d0 :: l, d, hd, n, hn => by
    simp only [DataW.weightsAll, List.mem_append]
    rcases List.mem_cons.1 hd with rfl | hd
    · exact Or.inl hn
    · exact Or.inr (weightsAll_mem hd n hn)

set_option maxRecDepth 100000 in
theorem bm_room {H : Type} {enc : TypeId × Value → H} {W : World} {n : Nat} {a b : Value} {ao : Option Addr} {k cap : Nat} {x : DataW H × List MemPlace} (h : DataW.trod enc Try.prog W 0 (fun _ => true) true n 25 [a, b, .slice ao k cap] = some x) (hw : ∀ k ∈ x.1.weights Try.prog 25, k ≤ reachBytes) : k ≤ 17592186044416 := by
  obtain ⟨xs, m, _, rfl, hl, hlen, hf⟩ := DataW.trod_struct Try.underlying25 h
  have t2 := hf 2 _ rfl
  simp at t2
  rw [Try.cells23] at t2
  simp only [List.take_succ_cons, List.take_zero] at t2
  match xs, hlen with
  | [y0, y1, y2], _ =>
    rcases Deep.open_slice (x := y2) Try.underlying23 t2 with ⟨hcs, _⟩ | ⟨a, len, cap, m, f, D, Pl, hcs, _, hlc, hmx, hm, hx, hel⟩
    · simp at hcs; omega
    · simp at hcs
      obtain ⟨rfl, rfl, rfl⟩ := hcs
      have := hw ((k + (m - k)) * Try.prog.bytesOf 62) (by simp [DataW.weights, DataW.weightsEach, Try.underlying25, Try.underlying23, hx])
      rw [Try.bytes62] at this
      simp only [reachBytes] at this
      omega

set_option maxRecDepth 100000 in
theorem piece_elem {H : Type} {enc : TypeId × Value → H} {W : World} {n : Nat} {cs : List Value} {x : DataW H × List MemPlace} (h : DataW.trod enc Try.prog W 0 (fun _ => true) true n 34 cs = some x) (hw : ∀ k ∈ x.1.weights Try.prog 34, k ≤ reachBytes) :
    ∃ r : Rp, cs = [.int .i64 r.X, .int .i64 r.Y, .int .i64 r.x, .int .i64 r.y, r.v] ∧ RpOK W r ∧ CapOK r.v ∧ r.l.length ≤ 17592186044416 := by
  obtain ⟨xs, m, _, rfl, hl, hlen, hf⟩ := DataW.trod_struct Try.underlying34 h
  rw [Try.cells34] at hl
  obtain ⟨a0, a1, a2, a3, a4, rfl⟩ : ∃ a0 a1 a2 a3 a4, cs = [a0, a1, a2, a3, a4] := by
    match cs, hl with
    | [a0, a1, a2, a3, a4], _ => exact ⟨a0, a1, a2, a3, a4, rfl⟩
  have t0 := hf 0 _ rfl
  have t1 := hf 1 _ rfl
  have t2 := hf 2 _ rfl
  simp at t0 t1 t2
  rw [Try.cells3] at t0 t1
  rw [Try.cells25] at t2
  simp only [List.take_succ_cons, List.take_zero] at t0 t1 t2
  match xs, hlen with
  | [y0, y1, y2], _ =>
    obtain ⟨k0, e0, _, w0⟩ := DataW.trod_int (x := y0) Try.underlying3 t0
    obtain ⟨k1, e1, _, w1⟩ := DataW.trod_int (x := y1) Try.underlying3 t1
    obtain ⟨x, y, v, l, e2, b1, b2, b3, b4, b5⟩ := bm_elem (x := y2) t2
    simp at e0 e1 e2
    subst e0
    subst e1
    obtain ⟨rfl, rfl, rfl⟩ := e2
    have hlen2 : l.length ≤ 17592186044416 := by
      obtain ⟨ao, cap, e, _, _⟩ := b3
      subst e
      exact bm_room (x := y2) t2 (fun k hk => hw k (by simp [DataW.weights, DataW.weightsEach, Try.underlying34, hk]))
    exact ⟨⟨k0, k1, x, y, _, l⟩, rfl, ⟨bounds_i64 w0, bounds_i64 w1, b1, b2, b3, b5⟩, b4, hlen2⟩

set_option maxRecDepth 100000 in
theorem open_pcs {H : Type} {enc : TypeId × Value → H} {W : World} {fuel : Nat} {v : Value} {x : DataW H × List MemPlace} (h : DataW.trod enc Try.prog W 0 (fun _ => true) true fuel 26 [v] = some x) (hw : ∀ k ∈ x.1.weights Try.prog 26, k ≤ reachBytes) :
    ∃ L : List Rp, SeenPs W v L ∧ (∀ r ∈ L, CapOK r.v ∧ r.l.length ≤ 17592186044416) ∧ L.length * 56 ≤ 140737488351232 := by
  rcases Deep.open_slice Try.underlying26 h with ⟨hcs, _⟩ | ⟨a, len, cap, m, f, D, Pl, hcs, _, hlc, hmx, hm, hx, hel⟩
  · simp at hcs
    exact ⟨[], ⟨none, 0, hcs, by simp, fun r hr => by simp at hr, fun hn => absurd rfl hn⟩, fun r hr => by simp at hr, by simp⟩
  · simp at hcs
    have hlm : len ≤ m := by rw [hm]; split <;> omega
    have hex : ∀ i, i < len → ∃ y : Rp, (W.cell? ((a.add (i * 5)).add 0) = some (.int .i64 y.X) ∧ W.cell? ((a.add (i * 5)).add 1) = some (.int .i64 y.Y) ∧ W.cell? ((a.add (i * 5)).add 2) = some (.int .i64 y.x) ∧ W.cell? ((a.add (i * 5)).add 3) = some (.int .i64 y.y) ∧ W.cell? ((a.add (i * 5)).add 4) = some y.v) ∧ RpOK W y ∧ CapOK y.v ∧ y.l.length ≤ 17592186044416 := by
      intro i hi
      obtain ⟨cs', hc, ht⟩ := hel i (by omega)
      obtain ⟨r, rfl, b0, b1, b2⟩ := piece_elem ht (fun k hk => hw k (by
        rw [hx]
        simp only [DataW.weights, Try.underlying26, List.mem_cons, List.mem_append]
        exact Or.inr (Or.inl (weightsAll_mem (List.mem_map.2 ⟨i, List.mem_range.2 hi, rfl⟩) k hk))))
      rw [Try.cells34] at hc
      have hcc := (World.cells?_some hc).2.2
      exact ⟨r, ⟨hcc 0 (by omega), hcc 1 (by omega), hcc 2 (by omega), hcc 3 (by omega), hcc 4 (by omega)⟩, b0, b1, b2⟩
    have hinh : Inhabited Rp := ⟨⟨0, 0, 0, 0, .slice none 0 0, []⟩⟩
    have : Nonempty Rp := ⟨⟨0, 0, 0, 0, .slice none 0 0, []⟩⟩
    obtain ⟨f, hf⟩ := Deep.choose_lt hex
    have hlen : ((List.range len).map f).length = len := by simp
    have hbig : len * 56 ≤ 140737488351232 := by
      have := hw ((len + (m - len)) * Try.prog.bytesOf 34) (by
        rw [hx]
        simp [DataW.weights, Try.underlying26])
      rw [Try.bytes34] at this
      simp only [reachBytes] at this
      omega
    refine ⟨(List.range len).map f, ⟨some a, cap, by rw [hlen]; exact hcs, by rw [hlen]; unfold maxLen at hmx; omega, fun r hr => ?_, fun hn => ?_⟩, fun r hr => ?_, by rw [hlen]; exact hbig⟩
    · obtain ⟨i, hi, rfl⟩ := List.mem_map.1 hr
      exact (hf i (List.mem_range.1 hi)).2.1
    · have hn0 : 0 < len := by
        rcases Nat.eq_zero_or_pos len with h0 | h0
        · subst h0; simp at hn
        · exact h0
      obtain ⟨b, off, spot⟩ := a
      have hspot : spot = none := by
        have := World.cell?_spot (hf 0 hn0).1.1
        simpa [Addr.add] using this
      subst hspot
      refine ⟨b, off, rfl, fun i hi => ?_⟩
      rw [hlen] at hi
      have := (hf i hi).1
      simp only [addr_add] at this
      simpa using this
    · obtain ⟨i, hi, rfl⟩ := List.mem_map.1 hr
      exact (hf i (List.mem_range.1 hi)).2.2

set_option maxRecDepth 100000 in
theorem open_laid {H : Type} {enc : TypeId × Value → H} {W : World} {base fuel : Nat} {v0 : Value} {x : DataW H × List MemPlace} (hv : Value.okWide Try.prog W .any base 38 v0) (h : DataW.trod enc Try.prog W 0 (fun _ => true) true fuel 38 v0.cells.toList = some x) (hw : ∀ k ∈ x.1.weights Try.prog 38, k ≤ reachBytes) :
    ∃ (v : Value) (L : List Rp) (X Y : Int), v0 = .agg #[v, .int .i64 X, .int .i64 Y] ∧ SeenPs W v L ∧ (∀ r ∈ L, CapOK r.v ∧ r.l.length ≤ 17592186044416) ∧ L.length * 56 ≤ 140737488351232 ∧ in64 X ∧ in64 Y := by
  obtain ⟨cs, rfl, hsz⟩ := okWide_struct Try.underlying38 hv
  obtain ⟨xs, m, _, rfl, hl, hlen, hf⟩ := DataW.trod_struct Try.underlying38 h
  rw [Try.cells38] at hl
  obtain ⟨L⟩ := cs
  simp only [Value.cells] at hl hf
  obtain ⟨a0, a1, a2, rfl⟩ : ∃ a0 a1 a2, L = [a0, a1, a2] := by
    match L, hl with
    | [a0, a1, a2], _ => exact ⟨a0, a1, a2, rfl⟩
  have t0 := hf 0 _ rfl
  have t1 := hf 1 _ rfl
  have t2 := hf 2 _ rfl
  simp at t0 t1 t2
  rw [Try.cells26p] at t0
  rw [Try.cells3] at t1 t2
  simp only [List.take_succ_cons, List.take_zero] at t0 t1 t2
  match xs, hlen with
  | [y0, y1, y2], _ =>
    obtain ⟨k1, e1, _, w1⟩ := DataW.trod_int (x := y1) Try.underlying3 t1
    obtain ⟨k2, e2, _, w2⟩ := DataW.trod_int (x := y2) Try.underlying3 t2
    simp at e1 e2
    subst e1
    subst e2
    obtain ⟨L, s1, s2, s3⟩ := open_pcs (x := y0) t0 (fun k hk => hw k (by simp [DataW.weights, DataW.weightsEach, Try.underlying38, hk]))
    exact ⟨a0, L, k1, k2, rfl, s1, s2, s3, bounds_i64 w1, bounds_i64 w2⟩

end Go.Proofs.Ytgpciopoionmeaa
