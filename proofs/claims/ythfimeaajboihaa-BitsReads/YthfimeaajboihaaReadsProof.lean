/- For every list of bytes and every list of orders 'BitsReads' returns true, and both read behind the call as they read before: the reader answers as a plain reader that lays no hand on its own. No condition. -/
import Derived.Test.YthfimeaajboihaaReads
import Derived.Test.YthfimeaajboihaaOpen
import Derived.SizedLaws
namespace Go.Proofs.Ythfimeaajboihaa
open Go.ChangeShapes Go.WideShapes Go.ChangeAt Go.RowKit

theorem Try.cells46 : Try.prog.cellsOf 46 = 2 := by kernel_rfl
theorem Try.bytes5 : Try.prog.bytesOf 5 = 1 := by kernel_rfl

theorem open_bytes {H : Type} {enc : TypeId × Value → H} {W : World} {fuel : Nat} {v : Value} {x : DataW H × List MemPlace} (h : DataW.trod enc Try.prog W 0 (fun _ => true) true fuel 39 [v] = some x) :
    ∃ (bo : Option Addr) (bcap : Nat) (l : List Nat), v = .slice bo l.length bcap ∧ (bo = none → l = [] ∧ bcap = 0) ∧ (∀ y ∈ l, y < 256) ∧
      (l ≠ [] → ∃ b off, bo = some ⟨b, off, none⟩ ∧ ∀ j, j < l.length → W.cell? ⟨b, off + j, none⟩ = some (.int .u8 (l[j]?.getD 0))) ∧
      (l ≠ [] → ∃ elems spare, x.1 = .slice elems spare ∧ l.length ≤ elems.length + spare.length) := by
  rcases open_ints Try.underlying39 Try.underlying5 (by kernel_rfl) h with ⟨hcs, _⟩ | ⟨a, len, c, zs, hcs, _, hl, hm, hz, hx, hcell, hwz⟩
  · simp at hcs
    exact ⟨none, 0, [], by simpa using hcs, fun _ => ⟨rfl, rfl⟩, by simp, by simp, by simp⟩
  · simp at hcs
    have hz' : zs.length = c := by simpa using hz
    have hb : ∀ z ∈ zs, 0 ≤ z ∧ z ≤ 255 := fun z hzm => bounds_u8 (hwz _ hzm)
    have hlen : ((zs.take len).map Int.toNat).length = len := by simp; omega
    refine ⟨some a, c, (zs.take len).map Int.toNat, by rw [hlen]; exact hcs, (fun e => by cases e), ?_, fun hne => ?_, fun _ => ⟨_, _, by rw [hx], by simp [lits]⟩⟩
    · intro y hy
      obtain ⟨z, hz1, rfl⟩ := List.mem_map.1 hy
      have := hb z (List.mem_of_mem_take hz1)
      omega
    · have hpos : 0 < len := by rw [← hlen]; exact List.length_pos_iff.2 hne
      obtain ⟨b, off, spot⟩ := a
      have hspot : spot = none := by
        have := World.cell?_spot (hcell 0 (by omega))
        simpa [Addr.add] using this
      subst hspot
      refine ⟨b, off, rfl, fun j hj => ?_⟩
      rw [hlen] at hj
      have h1 := hcell j (by omega)
      rw [addr_add] at h1
      rw [h1]
      have hjz : j < zs.length := by omega
      have hmem : zs[j] ∈ zs := List.getElem_mem _
      have := hb _ hmem
      simp [hj, hjz]
      omega

theorem reads_small {H : Type} {l : List Nat} {x y : DataW H} (h : (DataW.weightsEach Try.prog [46] [.agg [x, y]]).all (fun k => decide (k ≤ reachBytes)) = true)
    (hx : l ≠ [] → ∃ elems spare, x = .slice elems spare ∧ l.length ≤ elems.length + spare.length) : l.length ≤ 140737488351232 := by
  by_cases hne : l = []
  · subst hne; simp
  · obtain ⟨el, sp, rfl, hle⟩ := hx hne
    have := List.all_eq_true.1 h ((el.length + sp.length) * Try.prog.bytesOf 5) (by simp [DataW.weights, DataW.weightsEach, Try.underlying46, Try.underlying39])
    rw [Try.bytes5] at this
    have h2 := of_decide_eq_true this
    simp only [reachBytes, Nat.mul_one] at h2
    omega

set_option maxRecDepth 100000 in
theorem bitsReads_lifted (os : Os) (started : os.Started) (H : Type) (enc : TypeId × Value → H) :
    ReturnsInHanded {} Try.checked os 4 .any (Rows.bitsReadsSpec.pre6 enc Try.prog Try.f4 Rows.bitsReadsRow.domain false) (Rows.bitsReadsSpec.post enc Try.prog Try.f4 false true false false) := by
  refine returnsInHanded_of_change_sized (C := Try.checked) Try.own started (by kernel_rfl) Try.func4
    (ChangeSpec.witness6 (enc := enc) (C := Try.checked) false ⟨#[], #[.agg #[.slice none 0 0, .slice none 0 0]], []⟩ 8 (by kernel_rfl) (by kernel_rfl) (by kernel_rfl) (by kernel_rfl)) ?_
  intro W base args ds gs before hval0 hW hcnd hsz0 _
  have hval : ∀ (j : Nat) t v, Try.f4.params[j]? = some t → args[j]? = some v → Value.okWide Try.prog W .any base t v := hval0
  have hW' := hW
  obtain ⟨p, q, hA0, hV, rfl, hfz, hnd⟩ := hW
  have hA : DataW.TrodAll enc Try.prog W 0 (fun _ => true) true Try.f4.params.toList args.toList ds p := hA0
  have hsz : (DataW.weightsEach Try.prog (Try.f4.params.toList ++ Rows.bitsReadsSpec.plain.varTypes Try.prog) (ds ++ gs)).all (fun x => decide (x ≤ reachBytes)) = true := hsz0
  rw [Try.params4] at hA hval hsz
  obtain ⟨v0, vs0, d0, ds0, p0, q0, hargs, rfl, rfl, h0, r0⟩ := trodAll_cons hA
  obtain ⟨rfl, rfl, rfl⟩ := trodAll_nil r0
  obtain rfl : args = #[v0] := by cases args; simp_all
  obtain ⟨rfl, rfl⟩ := trodVars_none hV
  have k0 := h0
  have lt0 : ∀ x ∈ p0, x.block < W.heap.size := by obtain ⟨m, hm⟩ := k0; exact DataW.trod_lt m _ _ _ hm
  obtain ⟨c0, c1, y0, y1, m, rfl, rfl, _, hy0, hy1⟩ := Joins.open_agg2 Try.underlying46 (by kernel_rfl) Try.cells46 (hval 0 46 v0 rfl rfl) h0
  obtain ⟨bo, bcap, l, rfl, hno, hby, hcl, hdt⟩ := open_bytes hy0
  obtain ⟨ao, n, cap, K, N, D, rfl, hops⟩ := open_ops hy1
  have hsm : l.length ≤ 140737488351232 := reads_small (y := y1.1) hsz hdt
  clear hA0 hval0
  refine (reads_any bo bcap l ao n cap K N D W hops hsm hno hby hcl).mono fun e W' ⟨he, bel⟩ => ?_
  subst he
  exact ⟨_, rfl, _, _, _, [], _, [], hW', trodAll_mk1 (shut_bool Try.underlying4 _), (trodAll_cons_mk (Below.trod Try.laidOut (by kernel_rfl) (of_decide_eq_true (by kernel_rfl)) k0 bel lt0) trodAll_mk0), rfl, bel.frame _, fun h => by cases h⟩

theorem bitsReads_holds : Rows.BitsReadsSaid :=
  OpenClaim.holds_of_wide 4 Try.f4 rfl rfl rfl rfl rfl rfl rfl ⟨rfl, rfl, rfl, rfl, rfl⟩ rfl rfl rfl rfl rfl (by kernel_rfl) Try.func4 (by kernel_rfl)
    (of_decide_eq_true (by kernel_rfl)) (by unfold Func.isWrapper; rw [if_neg (by decide +kernel)]; exact ⟨rfl, rfl⟩)
    (fun os started H enc _ => bitsReads_lifted os started H enc)

end Go.Proofs.Ythfimeaajboihaa
