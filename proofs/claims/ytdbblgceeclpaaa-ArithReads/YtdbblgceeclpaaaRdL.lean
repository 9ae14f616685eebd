/- The reference's decoder: a context learns. -/
import Derived.Test.YtdbblgceeclpaaaRdN
namespace Go.Proofs.Ytdbblgceeclpaaa
open Go.RowKit

theorem RdAt.ctx {w : World} {br gt ct gs gz n : Nat} {vb : Value} {B : List Nat} {o : De} (h : RdAt w br gt ct gs gz n vb B o) {k : Nat} (hk : k < n) (hx : ∀ y ∈ o.x, y < 94) :
    RCtx w br gt ct gs gz n k (o.x.getD k 0 / 2) (o.x.getD k 0 % 2) (rQ (o.x.getD k 0 / 2)) := by
  obtain ⟨e0, e1, e2, e3, e4, e5, e6, e7, e8, ef⟩ := cell_of_nine h.blk
  have hlen := h.len
  have hy : o.x.getD k 0 < 94 := getD_lt hx k
  obtain ⟨t0, t1, t2, t3⟩ := tabCells_get 47 (o.x.getD k 0 / 2) (by omega)
  refine ⟨e0, e1, e2, ?_, ?_, ?_, ?_, ?_, ?_, h.st.frozenAt k, h.bt.frozenAt k⟩
  · rw [h.st.cellAt k (by omega), intCells_getD _ k (by rw [List.length_map, hlen]; exact hk)]
    congr 3
    rw [List.getD_eq_getElem?_getD, List.getD_eq_getElem?_getD, List.getElem?_map]
    cases o.x[k]? <;> rfl
  · rw [h.bt.cellAt k (by omega), intCells_getD _ k (by rw [List.length_map, hlen]; exact hk)]
    congr 3
    rw [List.getD_eq_getElem?_getD, List.getD_eq_getElem?_getD, List.getElem?_map]
    cases o.x[k]? <;> rfl
  · rw [h.tab.cellAt _ (by omega)]; exact t0
  · rw [h.tab.cellAt _ (by omega)]; exact t1
  · rw [h.tab.cellAt _ (by omega)]; exact t2
  · rw [h.tab.cellAt _ (by omega)]; exact t3
theorem RdAt.setX {w : World} {br gt ct gs gz n : Nat} {vb : Value} {B : List Nat} {o : De} (h : RdAt w br gt ct gs gz n vb B o) (k v : Nat) : RdAt ((w.setCell ⟨gz, k, none⟩ (.int .i64 ((v % 2 : Nat) : Int))).setCell ⟨gs, k, none⟩ (.int .i64 ((v / 2 : Nat) : Int))) br gt ct gs gz n vb B { o with x := o.x.set k v } := by
  obtain ⟨n1, n2, n3, n4, n5, n6⟩ := h.nes
  have f1 := Fr.set1 w gz k (.int .i64 ((v % 2 : Nat) : Int))
  have f2 := Fr.set1 (w.setCell ⟨gz, k, none⟩ (.int .i64 ((v % 2 : Nat) : Int))) gs k (.int .i64 ((v / 2 : Nat) : Int))
  have f : Fr (fun j => j = gz ∨ j = gs) w ((w.setCell ⟨gz, k, none⟩ (.int .i64 ((v % 2 : Nat) : Int))).setCell ⟨gs, k, none⟩ (.int .i64 ((v / 2 : Nat) : Int))) :=
    (f1.mono (fun _ _ e => Or.inl e)).trans f2 (fun _ _ e => Or.inr e)
  refine ⟨?_, row_kept1 h.tab f (by rintro (e | e); exact n6 e.symm; exact n5 e.symm), ?_, ?_, row_kept h.bs f (fun q hq => by rintro (e | e); exact (n4 q hq).2.2.2 e; exact (n4 q hq).2.2.1 e), h.lim, h.ne, by simp only [List.length_set]; exact h.len⟩
  · rw [f.block br h.lt (by rintro (e | e); exact n3 e.symm; exact n2 e.symm)]; exact h.blk
  · have := ((row_kept1 h.st f1 h.ne).stored k (.int .i64 ((v / 2 : Nat) : Int))).1
    rw [intCells_set] at this
    simp only [List.map_set]; exact this
  · have := (h.bt.stored k (.int .i64 ((v % 2 : Nat) : Int))).1
    rw [intCells_set] at this
    have k2 := row_kept1 this f2 (Ne.symm h.ne)
    simp only [List.map_set]; exact k2
theorem RdAt.setS {w : World} {br gt ct gs gz n : Nat} {vb : Value} {B : List Nat} {o : De} (h : RdAt w br gt ct gs gz n vb B o) (k v : Nat) (hv : (o.x.map (· % 2)).getD k 0 = v % 2) : RdAt (w.setCell ⟨gs, k, none⟩ (.int .i64 ((v / 2 : Nat) : Int))) br gt ct gs gz n vb B { o with x := o.x.set k v } := by
  obtain ⟨n1, n2, n3, n4, n5, n6⟩ := h.nes
  have f := Fr.set1 w gs k (.int .i64 ((v / 2 : Nat) : Int))
  refine ⟨?_, row_kept1 h.tab f (fun e => n5 e.symm), ?_, ?_, row_kept h.bs f (fun q hq e => (n4 q hq).2.2.1 e), h.lim, h.ne, by simp only [List.length_set]; exact h.len⟩
  · rw [f.block br h.lt (fun e => n2 e.symm)]; exact h.blk
  · have := (h.st.stored k (.int .i64 ((v / 2 : Nat) : Int))).1
    rw [intCells_set] at this
    simp only [List.map_set]; exact this
  · have := row_kept1 h.bt f (fun e => h.ne e.symm)
    simp only [List.map_set]
    rw [list_set_same _ k _ hv]
    exact this

theorem rlearn_likely (w : World) (br gt ct gs gz n : Nat) (vb : Value) (B : List Nat) (o : De) (h : RdAt w br gt ct gs gz n vb B o) (hx : ∀ y ∈ o.x, y < 94) (hlim : n ≤ 131072) (k y : Nat) (hk : k < n) (hy : o.x.getD k 0 = y) :
    Calls Try.prog 42 #[.pointer (some ⟨br, 0, none⟩), .int .i64 (k : Nat)] w fun e w' => e = .returned (.tuple #[]) ∧ RdAt w' br gt ct gs gz n vb B { o with x := o.x.set k (learnP true y) } ∧ RdStep br gs gz w w' := by
  have hc := h.ctx hk hx
  rw [hy] at hc
  have hy94 : y < 94 := by rw [← hy]; exact getD_lt hx k
  refine (rlikely_at w br gt ct gs n k (y / 2) (rM (y / 2)) hk hlim (by omega) hc.e0 hc.e1 hc.cs hc.cm hc.fs).mono ?_
  rintro e w5 ⟨rfl, hw5⟩
  have hv2 : (2 * rM (y / 2) + y % 2) / 2 = rM (y / 2) := by omega
  have hv1 : (2 * rM (y / 2) + y % 2) % 2 = y % 2 := by omega
  have hsS := h.setS k (2 * rM (y / 2) + y % 2) (by
    rw [hv1, ← hy, List.getD_eq_getElem?_getD, List.getD_eq_getElem?_getD, List.getElem?_map]
    cases o.x[k]? <;> rfl)
  rw [hv2] at hsS
  have hlp : learnP true y = 2 * rM (y / 2) + y % 2 := by unfold learnP; rw [if_pos rfl]
  refine ⟨rfl, ?_, ?_⟩
  · rw [hlp, hw5]
    exact hsS.keptAll (Fr.drew (Fr.refl (fun _ => False) _))
  · rw [hw5]
    exact ((Fr.set1 w gs k _).mono (fun _ _ e => Or.inr (Or.inl e))).drew

theorem rlearn_other (w : World) (br gt ct gs gz n : Nat) (vb : Value) (B : List Nat) (o : De) (h : RdAt w br gt ct gs gz n vb B o) (hx : ∀ y ∈ o.x, y < 94) (hlim : n ≤ 131072) (k y : Nat) (hk : k < n) (hy : o.x.getD k 0 = y) :
    Calls Try.prog 43 #[.pointer (some ⟨br, 0, none⟩), .int .i64 (k : Nat)] w fun e w' => e = .returned (.tuple #[]) ∧ RdAt w' br gt ct gs gz n vb B { o with x := o.x.set k (learnP false y) } ∧ RdStep br gs gz w w' := by
  have hc := h.ctx hk hx
  rw [hy] at hc
  have hy94 : y < 94 := by rw [← hy]; exact getD_lt hx k
  obtain ⟨n1, n2, n3, n4, n5, n6⟩ := h.nes
  cases hrs : rS (y / 2)
  · refine (rother_keep w br gt ct gs gz n k (y / 2) (rQ (y / 2)) (rM (y / 2)) (rL (y / 2)) (y % 2) hk hlim ⟨by omega, rfl, rfl, rfl, hrs.symm⟩ (by omega) h.ne hc.e0 hc.e1 hc.e2 hc.cs hc.cz hc.cq hc.cm hc.cl (by rw [hc.cb, hrs]) hc.fs hc.fz n2 n3 n6).mono ?_
    rintro e w5 ⟨rfl, f5⟩
    have hv2 : (2 * rL (y / 2) + y % 2) / 2 = rL (y / 2) := by omega
    have hv1 : (2 * rL (y / 2) + y % 2) % 2 = y % 2 := by omega
    have hsS := h.setS k (2 * rL (y / 2) + y % 2) (by
      rw [hv1, ← hy, List.getD_eq_getElem?_getD, List.getD_eq_getElem?_getD, List.getElem?_map]
      cases o.x[k]? <;> rfl)
    rw [hv2] at hsS
    have hlp : learnP false y = 2 * rL (y / 2) + y % 2 := by unfold learnP; rw [if_neg (by decide), hrs]; rfl
    refine ⟨rfl, ?_, ?_⟩
    · rw [hlp]; exact hsS.keptAll f5
    · exact ((Fr.set1 w gs k _).mono (fun _ _ e => Or.inr (Or.inl e))).trans f5 (fun _ _ h => h.elim)
  · refine (rother_turn w br gt ct gs gz n k (y / 2) (rQ (y / 2)) (rM (y / 2)) (rL (y / 2)) (y % 2) hk hlim ⟨by omega, rfl, rfl, rfl, hrs.symm⟩ (by omega) h.ne hc.e0 hc.e1 hc.e2 hc.cs hc.cz hc.cq hc.cm hc.cl (by rw [hc.cb, hrs]) hc.fs hc.fz n2 n3 n6).mono ?_
    rintro e w5 ⟨rfl, f5⟩
    have hv2 : (2 * rL (y / 2) + (1 - y % 2)) / 2 = rL (y / 2) := by omega
    have hv1 : (2 * rL (y / 2) + (1 - y % 2)) % 2 = 1 - y % 2 := by omega
    have hsS := h.setX k (2 * rL (y / 2) + (1 - y % 2))
    rw [hv2, hv1] at hsS
    have hlp : learnP false y = 2 * rL (y / 2) + (1 - y % 2) := by unfold learnP; rw [if_neg (by decide), hrs]; rfl
    refine ⟨rfl, ?_, ?_⟩
    · rw [hlp]; exact hsS.keptAll f5
    · exact (((Fr.set1 w gz k _).mono (fun _ _ e => Or.inr (Or.inr e))).trans (Fr.set1 _ gs k _) (fun _ _ e => Or.inr (Or.inl e))).trans f5 (fun _ _ h => h.elim)

end Go.Proofs.Ytdbblgceeclpaaa
