/- The reference's decoder: a context learns. -/
import Derived.Test.YtkggdnkmaldmlaaK40
import Derived.BigQuiet
namespace Go.Proofs.Ytkggdnkmaldmlaa
open Go.RowKit

theorem RdAt.ctx {w : World} {br gt ct gs gz n : Nat} {vb : Value} {B : List Nat} {o : De} (h : RdAt w br gt ct gs gz n vb B o) {k : Nat} (hk : k < n) (hx : ∀ y ∈ o.x, y < 94) :
    RCtx w br gt ct gs gz n k (o.x.getD k 0 / 2) (o.x.getD k 0 % 2) (rQ (o.x.getD k 0 / 2)) := by
  obtain ⟨e0, e1, e2, e3, e4, e5, e6, e7, e8, ef⟩ := cell_of_nine h.blk
  have hlen := h.len
  have hy : o.x.getD k 0 < 94 := getD_lt hx k
  obtain ⟨t0, t1, t2, t3⟩ := tabCells_get 47 (o.x.getD k 0 / 2) (by omega)
  refine ⟨e0, e1, e2, ?_, ?_, ?_, ?_, ?_, ?_, h.st.frozenAt k, h.bt.frozenAt k⟩
  · rw [h.st.cellAt k (by omega), intCells_getD _ k (by rw [List.length_map, hlen]; exact hk)]
    congr 3
    rw [List.getD_eq_getElem?_getD, List.getD_eq_getElem?_getD, List.getElem?_map]
    cases o.x[k]? <;> rfl
  · rw [h.bt.cellAt k (by omega), intCells_getD _ k (by rw [List.length_map, hlen]; exact hk)]
    congr 3
    rw [List.getD_eq_getElem?_getD, List.getD_eq_getElem?_getD, List.getElem?_map]
    cases o.x[k]? <;> rfl
  · rw [h.tab.cellAt _ (by omega)]; exact t0
  · rw [h.tab.cellAt _ (by omega)]; exact t1
  · rw [h.tab.cellAt _ (by omega)]; exact t2
  · rw [h.tab.cellAt _ (by omega)]; exact t3
theorem RdAt.setX {w : World} {br gt ct gs gz n : Nat} {vb : Value} {B : List Nat} {o : De} (h : RdAt w br gt ct gs gz n vb B o) (k v : Nat) : RdAt ((w.setCell ⟨gz, k, none⟩ (.int .i64 ((v % 2 : Nat) : Int))).setCell ⟨gs, k, none⟩ (.int .i64 ((v / 2 : Nat) : Int))) br gt ct gs gz n vb B { o with x := o.x.set k v } := by
  obtain ⟨n1, n2, n3, n4, n5, n6⟩ := h.nes
  have f1 := Fr.set1 w gz k (.int .i64 ((v % 2 : Nat) : Int))
  have f2 := Fr.set1 (w.setCell ⟨gz, k, none⟩ (.int .i64 ((v % 2 : Nat) : Int))) gs k (.int .i64 ((v / 2 : Nat) : Int))
  have f : Fr (fun j => j = gz ∨ j = gs) w ((w.setCell ⟨gz, k, none⟩ (.int .i64 ((v % 2 : Nat) : Int))).setCell ⟨gs, k, none⟩ (.int .i64 ((v / 2 : Nat) : Int))) :=
    (f1.mono (fun _ _ e => Or.inl e)).trans f2 (fun _ _ e => Or.inr e)
  refine ⟨?_, row_kept1 h.tab f (by rintro (e | e); exact n6 e.symm; exact n5 e.symm), ?_, ?_, row_kept h.bs f (fun q hq => by rintro (e | e); exact (n4 q hq).2.2.2 e; exact (n4 q hq).2.2.1 e), h.lim, h.ne, by simp only [List.length_set]; exact h.len⟩
  · rw [f.block br h.lt (by rintro (e | e); exact n3 e.symm; exact n2 e.symm)]; exact h.blk
  · have := ((row_kept1 h.st f1 h.ne).stored k (.int .i64 ((v / 2 : Nat) : Int))).1
    rw [intCells_set] at this
    simp only [List.map_set]; exact this
  · have := (h.bt.stored k (.int .i64 ((v % 2 : Nat) : Int))).1
    rw [intCells_set] at this
    have k2 := row_kept1 this f2 (Ne.symm h.ne)
    simp only [List.map_set]; exact k2
theorem RdAt.setS {w : World} {br gt ct gs gz n : Nat} {vb : Value} {B : List Nat} {o : De} (h : RdAt w br gt ct gs gz n vb B o) (k v : Nat) (hv : (o.x.map (· % 2)).getD k 0 = v % 2) : RdAt (w.setCell ⟨gs, k, none⟩ (.int .i64 ((v / 2 : Nat) : Int))) br gt ct gs gz n vb B { o with x := o.x.set k v } := by
  obtain ⟨n1, n2, n3, n4, n5, n6⟩ := h.nes
  have f := Fr.set1 w gs k (.int .i64 ((v / 2 : Nat) : Int))
  refine ⟨?_, row_kept1 h.tab f (fun e => n5 e.symm), ?_, ?_, row_kept h.bs f (fun q hq e => (n4 q hq).2.2.1 e), h.lim, h.ne, by simp only [List.length_set]; exact h.len⟩
  · rw [f.block br h.lt (fun e => n2 e.symm)]; exact h.blk
  · have := (h.st.stored k (.int .i64 ((v / 2 : Nat) : Int))).1
    rw [intCells_set] at this
    simp only [List.map_set]; exact this
  · have := row_kept1 h.bt f (fun e => h.ne e.symm)
    simp only [List.map_set]
    rw [list_set_same _ k _ hv]
    exact this

theorem rlearn_likely (w : World) (br gt ct gs gz n : Nat) (vb : Value) (B : List Nat) (o : De) (h : RdAt w br gt ct gs gz n vb B o) (hx : ∀ y ∈ o.x, y < 94) (hlim : n ≤ 131072) (k y : Nat) (hk : k < n) (hy : o.x.getD k 0 = y) :
    Calls Try.prog 84 #[.pointer (some ⟨br, 0, none⟩), .int .i64 (k : Nat)] w fun e w' => e = .returned (.tuple #[]) ∧ RdAt w' br gt ct gs gz n vb B { o with x := o.x.set k (learnP true y) } ∧ RdStep br gs gz w w' := by
  have hc := h.ctx hk hx
  rw [hy] at hc
  have hy94 : y < 94 := by rw [← hy]; exact getD_lt hx k
  refine (rlikely_at w br gt ct gs n k (y / 2) (rM (y / 2)) hk hlim (by omega) hc.e0 hc.e1 hc.cs hc.cm hc.fs).mono ?_
  rintro e w5 ⟨rfl, hw5⟩
  have hv2 : (2 * rM (y / 2) + y % 2) / 2 = rM (y / 2) := by omega
  have hv1 : (2 * rM (y / 2) + y % 2) % 2 = y % 2 := by omega
  have hsS := h.setS k (2 * rM (y / 2) + y % 2) (by
    rw [hv1, ← hy, List.getD_eq_getElem?_getD, List.getD_eq_getElem?_getD, List.getElem?_map]
    cases o.x[k]? <;> rfl)
  rw [hv2] at hsS
  have hlp : learnP true y = 2 * rM (y / 2) + y % 2 := by unfold learnP; rw [if_pos rfl]
  refine ⟨rfl, ?_, ?_⟩
  · rw [hlp, hw5]
    exact hsS.keptAll (Fr.drew (Fr.refl (fun _ => False) _))
  · rw [hw5]
    exact ((Fr.set1 w gs k _).mono (fun _ _ e => Or.inr (Or.inl e))).drew

theorem rlearn_other (w : World) (br gt ct gs gz n : Nat) (vb : Value) (B : List Nat) (o : De) (h : RdAt w br gt ct gs gz n vb B o) (hx : ∀ y ∈ o.x, y < 94) (hlim : n ≤ 131072) (k y : Nat) (hk : k < n) (hy : o.x.getD k 0 = y) :
    Calls Try.prog 85 #[.pointer (some ⟨br, 0, none⟩), .int .i64 (k : Nat)] w fun e w' => e = .returned (.tuple #[]) ∧ RdAt w' br gt ct gs gz n vb B { o with x := o.x.set k (learnP false y) } ∧ RdStep br gs gz w w' := by
  have hc := h.ctx hk hx
  rw [hy] at hc
  have hy94 : y < 94 := by rw [← hy]; exact getD_lt hx k
  obtain ⟨n1, n2, n3, n4, n5, n6⟩ := h.nes
  cases hrs : rS (y / 2)
  · refine (rother_keep w br gt ct gs gz n k (y / 2) (rQ (y / 2)) (rM (y / 2)) (rL (y / 2)) (y % 2) hk hlim ⟨by omega, rfl, rfl, rfl, hrs.symm⟩ (by omega) h.ne hc.e0 hc.e1 hc.e2 hc.cs hc.cz hc.cq hc.cm hc.cl (by rw [hc.cb, hrs]) hc.fs hc.fz n2 n3 n6).mono ?_
    rintro e w5 ⟨rfl, f5⟩
    have hv2 : (2 * rL (y / 2) + y % 2) / 2 = rL (y / 2) := by omega
    have hv1 : (2 * rL (y / 2) + y % 2) % 2 = y % 2 := by omega
    have hsS := h.setS k (2 * rL (y / 2) + y % 2) (by
      rw [hv1, ← hy, List.getD_eq_getElem?_getD, List.getD_eq_getElem?_getD, List.getElem?_map]
      cases o.x[k]? <;> rfl)
    rw [hv2] at hsS
    have hlp : learnP false y = 2 * rL (y / 2) + y % 2 := by unfold learnP; rw [if_neg (by decide), hrs]; rfl
    refine ⟨rfl, ?_, ?_⟩
    · rw [hlp]; exact hsS.keptAll f5
    · exact ((Fr.set1 w gs k _).mono (fun _ _ e => Or.inr (Or.inl e))).trans f5 (fun _ _ h => h.elim)
  · refine (rother_turn w br gt ct gs gz n k (y / 2) (rQ (y / 2)) (rM (y / 2)) (rL (y / 2)) (y % 2) hk hlim ⟨by omega, rfl, rfl, rfl, hrs.symm⟩ (by omega) h.ne hc.e0 hc.e1 hc.e2 hc.cs hc.cz hc.cq hc.cm hc.cl (by rw [hc.cb, hrs]) hc.fs hc.fz n2 n3 n6).mono ?_
    rintro e w5 ⟨rfl, f5⟩
    have hv2 : (2 * rL (y / 2) + (1 - y % 2)) / 2 = rL (y / 2) := by omega
    have hv1 : (2 * rL (y / 2) + (1 - y % 2)) % 2 = 1 - y % 2 := by omega
    have hsS := h.setX k (2 * rL (y / 2) + (1 - y % 2))
    rw [hv2, hv1] at hsS
    have hlp : learnP false y = 2 * rL (y / 2) + (1 - y % 2) := by unfold learnP; rw [if_neg (by decide), hrs]; rfl
    refine ⟨rfl, ?_, ?_⟩
    · rw [hlp]; exact hsS.keptAll f5
    · exact (((Fr.set1 w gz k _).mono (fun _ _ e => Or.inr (Or.inr e))).trans (Fr.set1 _ gs k _) (fun _ _ e => Or.inr (Or.inl e))).trans f5 (fun _ _ h => h.elim)

end Go.Proofs.Ytkggdnkmaldmlaa

/- The reference's decoder: 'Get'. -/
namespace Go.Proofs.Ytkggdnkmaldmlaa
open Go.RowKit

set_option maxRecDepth 100000 in
set_option maxHeartbeats 8000000 in
theorem rget_any (w : World) (br gt ct gs gz n : Nat) (vb : Value) (B : List Nat) (o : De) (h : RdAt w br gt ct gs gz n vb B o) (hok : Eok B o) (hm : o.made < 16777216) (i : Int) (hi : -9223372036854775808 ≤ i ∧ i ≤ 9223372036854775807) :
    Calls Try.prog 72 #[.pointer (some ⟨br, 0, none⟩), .int .i64 i] w fun e w' => e = .returned (.tuple #[.int .i64 (getBit o i : Nat), .int .i64 0]) ∧ RdAt w' br gt ct gs gz n vb B (getP B o i) ∧ RdStep br gs gz w w' := by
  obtain ⟨e0, e1, e2, e3, e4, e5, e6, e7, e8, ef⟩ := cell_of_nine h.blk
  have hlen := h.len
  have hpos := hok.pos
  have hlim := hok.lim
  rw [hlen] at hpos hlim
  obtain ⟨k, hK⟩ : ∃ k, placeOf i n = k := ⟨_, rfl⟩
  have hk : k < n := by rw [← hK]; exact placeOf_lt i hpos
  have h1 := h.setMade (o.made + 1)
  rw [show ((o.made + 1 : Nat) : Int) = (o.made : Int) + 1 by push_cast; rfl] at h1
  obtain ⟨y, hy⟩ : ∃ y, o.x.getD k 0 = y := ⟨_, rfl⟩
  have HG : Hid (getBit o i = decBit o.s y ∧ getP B o i = { s := decP B o.s y, x := o.x.set k (decX o.s y), made := o.made + 1 }) := by
    unfold getBit getP
    rw [hlen, hK, hy]
    exact ⟨rfl, rfl⟩
  have hc1 := h1.ctx hk hok.cells
  dsimp only at hc1
  rw [hy] at hc1
  have hy94 : y < 94 := by rw [← hy]; exact getD_lt hok.cells k
  have hq0 := rQ_bd (y / 2) (by omega)
  have hhalf := hok.ok.half
  have halt := hok.ok.dw.alt
  have hclt := hok.ok.dw.clt
  obtain ⟨q, Hq⟩ : ∃ q, Hid (q = rQ (y / 2)) := ⟨_, rfl⟩
  rw [← Hq.out] at hc1 hq0
  obtain ⟨z, Hz⟩ : ∃ z, Hid (z = y % 2) := ⟨_, rfl⟩
  have hz2 : z < 2 := by rw [Hz.out]; omega
  rw [← Hz.out] at hc1
  obtain ⟨s, Hs⟩ : ∃ s, Hid (s = y / 2) := ⟨_, rfl⟩
  have hs47 : s < 47 := by rw [Hs.out]; omega
  rw [← Hs.out] at hc1
  have HI : Hid (Calls Try.prog 83 #[.pointer (some ⟨br, 0, none⟩), .int .i64 i] (w.setCell ⟨br, 3, none⟩ (.int .i64 ((o.made : Int) + 1))) fun e w' => e = .returned (.int .i64 (k : Nat)) ∧ w' = w.setCell ⟨br, 3, none⟩ (.int .i64 ((o.made : Int) + 1))) := by
    rw [← hK]
    exact rindex_at _ br gs n i hi hpos hlim hc1.e1
  have HOk : Hid (Eok B o) := hok
  have HY : Hid (o.x.getD k 0 = y) := hy
  have HLm : Hid (n ≤ 131072) := hlim
  have ef3 := ef 3
  have c0 := hc1.cs
  have c1 := hc1.cz
  have c2 := hc1.cq
  have c3 := hc1.e0
  have c4 := hc1.e1
  have c5 := hc1.e2
  obtain ⟨w1, hw1⟩ : ∃ w1, w.setCell ⟨br, 3, none⟩ (.int .i64 ((o.made : Int) + 1)) = w1 := ⟨_, rfl⟩
  have F1 : Hid (Fr (fun j => j = br) w w1) := by rw [← hw1]; exact Fr.set1 w br 3 _
  rw [hw1] at h1 c0 c1 c2 c3 c4 c5 HI
  have H1 : Hid (RdAt w1 br gt ct gs gz n vb B { o with made := o.made + 1 }) := h1
  obtain ⟨f0, f1, f2, f3, f4, f5, f6, f7, f8, ff⟩ := cell_of_nine h1.blk
  have k1 : IntKind.i64.wrap ((o.made : Int) + 1) = (o.made : Int) + 1 := by rw [IntKind.wrap_i64]; omega
  have km : ((o.made : Int) == 16777216) = false := by simp; omega
  have km2 : decide (o.made = 16777216) = false := decide_eq_false (by omega)
  clear ef e0 e1 e2 e4 e5 e6 e7 e8 h1 hc1 hy hok hK h hlen hpos hlim hi
  go_enter Try.func72, Try.ntmps72
  go_wp2_with fail
  refine HI.out.mono ?_
  rintro e w2 ⟨rfl, hw2⟩
  obtain rfl := hw2.symm
  go_wp2_with fail
  go_quiet (fail)
  have hnx := H1.out.keptAll ((Fr.refl (fun _ => False) w1).drewN nq)
  have Fn : Fr (fun j => j = br) w (w1.drewN nq) := F1.out.drewN nq
  generalize w1.drewN nq = wn at *
  obtain ⟨d, hd⟩ : ∃ d, o.s.a - q = d := ⟨_, rfl⟩
  have k2 : IntKind.i64.wrap ((o.s.a : Int) - (q : Int)) = (d : Int) := by rw [IntKind.wrap_i64]; omega
  clear f0 f1 f2 f3 f4 f5 f6 f7 f8 ff c0 c1 c2 c3 c4 c5
  obtain ⟨g0, g1, g2, g3, g4, g5, g6, g7, g8, gf⟩ := cell_of_nine hnx.blk
  have hcn := hnx.ctx hk HOk.out.cells
  dsimp only at hcn g4 g5
  rw [HY.out, ← Hz.out] at hcn
  have pz := hcn.cz
  have gf4 := gf 4
  have h3 := hnx.setA d
  have HR3 : Hid (RdAt (wn.setCell ⟨br, 4, none⟩ (.int .i64 (d : Int))) br gt ct gs gz n vb B { o with made := o.made + 1, s := { o.s with a := d } }) := h3
  have HF3 : Hid (Fr (fun j => j = br) w (wn.setCell ⟨br, 4, none⟩ (.int .i64 (d : Int)))) := Fr.trans Fn (Fr.set1 wn br 4 _) (fun _ _ h => h)
  have hd65 : d < 65536 := by omega
  have HDd : Hid (o.s.a - q = d ∧ 1 ≤ d) := ⟨hd, by omega⟩
  obtain ⟨w3, hw3⟩ : ∃ w3, wn.setCell ⟨br, 4, none⟩ (.int .i64 (d : Int)) = w3 := ⟨_, rfl⟩
  rw [hw3] at HR3 HF3
  obtain ⟨p0, p1, p2, p3, p4, p5, p6, p7, p8, pf⟩ := cell_of_nine HR3.out.blk
  dsimp only at p4 p5
  clear hnx Fn gf hcn h3 hd
  obtain ⟨C, HCc⟩ : ∃ C, Hid (C = o.s.c) := ⟨_, rfl⟩
  rw [← HCc.out] at p5 g5 hclt
  have HEq : Hid (decBit o.s y = (if decStay o.s q then z else if decLikely o.s q then z else 1 - z) ∧ decP B o.s y = (if decStay o.s q then decS o.s q else renewD B 16 (decS o.s q)) ∧ decX o.s y = (if decStay o.s q then y else learnP (decLikely o.s q) y)) := by
    unfold decBit decP decX
    rw [← Hq.out, ← Hz.out]
    exact ⟨rfl, rfl, rfl⟩
  have HDw : Hid (Dw B o.s) := HOk.out.ok.dw
  have HB : Hid (∀ y ∈ B, y < 256) := HOk.out.bytes
  have hdz : (1 : Int) - (z : Int) = ((1 - z : Nat) : Int) := by omega
  by_cases hl : C / 65536 < q
  · have hlow : decide ((C : Int) / 65536 < (q : Int)) = true := decide_eq_true (by omega)
    have hnst : ¬ decStay o.s q := fun h => h.1 (by rw [← HCc.out]; exact hl)
    have hS : decS o.s q = { o.s with a := q } := by unfold decS; rw [if_pos (by rw [← HCc.out]; exact hl)]
    by_cases hdq : d < q
    · have hd2 : decide ((d : Int) < (q : Int)) = true := decide_eq_true (by omega)
      have hLk : decLikely o.s q = true := by unfold decLikely; rw [HDd.out.1, ← HCc.out, decide_eq_true hl, decide_eq_true hdq]; rfl
      have HFin : Hid (getBit o i = z ∧ getP B o i = { s := renewD B 16 { o.s with a := q }, x := o.x.set k (learnP true y), made := o.made + 1 }) := by
        rw [HG.out.1, HG.out.2, HEq.out.1, HEq.out.2.1, HEq.out.2.2, if_neg hnst, if_neg hnst, if_neg hnst, hLk, hS]
        exact ⟨rfl, rfl⟩
      have HLn : Hid (Calls Try.prog 84 #[.pointer (some ⟨br, 0, none⟩), .int .i64 (k : Nat)] w3 fun e w' => e = .returned (.tuple #[]) ∧ RdAt w' br gt ct gs gz n vb B { s := { o.s with a := d }, x := o.x.set k (learnP true y), made := o.made + 1 } ∧ RdStep br gs gz w3 w') := rlearn_likely w3 br gt ct gs gz n vb B _ HR3.out HOk.out.cells HLm.out k y hk HY.out
      clear hl hnst hS hLk HG HEq
      go_wp2_with fail
      refine HLn.out.mono ?_
      rintro e w5 ⟨rfl, hr5, hs5⟩
      have HR5 : Hid (RdAt (w5.setCell ⟨br, 4, none⟩ (.int .i64 (q : Int))) br gt ct gs gz n vb B { s := { o.s with a := q }, x := o.x.set k (learnP true y), made := o.made + 1 } ∧ RdStep br gs gz w (w5.setCell ⟨br, 4, none⟩ (.int .i64 (q : Int)))) := ⟨hr5.setA q, ((HF3.out.mono (fun _ _ e => Or.inl e)).trans hs5 (fun _ _ e => e)).trans (Fr.set1 w5 br 4 _) (fun _ _ e => Or.inl e)⟩
      obtain ⟨r0, r1, r2, r3, r4, r5, r6, r7, r8, rf⟩ := cell_of_nine hr5.blk
      clear hr5 hs5
      go_wp2_with fail
      generalize w5.setCell ⟨br, 4, none⟩ (.int .i64 (q : Int)) = w6 at *
      refine (rrenewD_any _ br gt ct gs gz n vb B _ HR5.out.1 HB.out ⟨hq0.1, by have := hq0.2; show q < 65536; omega, HDw.out.clt, HDw.out.tlt, HDw.out.plt⟩ (by have := hq0.2; show q < 32768; omega)).mono ?_
      rintro e w7 ⟨rfl, hr7, hs7⟩
      have HR7 : Hid (RdAt w7 br gt ct gs gz n vb B (getP B o i) ∧ RdStep br gs gz w w7) := by
        rw [HFin.out.2]
        exact ⟨hr7, HR5.out.2.trans hs7⟩
      clear hr7 hs7
      go_wp2_with fail
      go_ret2
      exact ⟨by rw [HFin.out.1]; rfl, HR7.out.1, HR7.out.2⟩
    · have hd2 : decide (d < q) = false := decide_eq_false hdq
      have hd3 : decide ((d : Int) < (q : Int)) = false := decide_eq_false (by omega)
      have hLk : decLikely o.s q = false := by unfold decLikely; rw [HDd.out.1, ← HCc.out, decide_eq_true hl, decide_eq_false hdq]; rfl
      have HFin : Hid (getBit o i = 1 - z ∧ getP B o i = { s := renewD B 16 { o.s with a := q }, x := o.x.set k (learnP false y), made := o.made + 1 }) := by
        rw [HG.out.1, HG.out.2, HEq.out.1, HEq.out.2.1, HEq.out.2.2, if_neg hnst, if_neg hnst, if_neg hnst, hLk, hS]
        exact ⟨rfl, rfl⟩
      have HLn : Hid (Calls Try.prog 85 #[.pointer (some ⟨br, 0, none⟩), .int .i64 (k : Nat)] w3 fun e w' => e = .returned (.tuple #[]) ∧ RdAt w' br gt ct gs gz n vb B { s := { o.s with a := d }, x := o.x.set k (learnP false y), made := o.made + 1 } ∧ RdStep br gs gz w3 w') := rlearn_other w3 br gt ct gs gz n vb B _ HR3.out HOk.out.cells HLm.out k y hk HY.out
      clear hl hnst hS hLk HG HEq
      go_wp2_with fail
      refine HLn.out.mono ?_
      rintro e w5 ⟨rfl, hr5, hs5⟩
      have HR5 : Hid (RdAt (w5.setCell ⟨br, 4, none⟩ (.int .i64 (q : Int))) br gt ct gs gz n vb B { s := { o.s with a := q }, x := o.x.set k (learnP false y), made := o.made + 1 } ∧ RdStep br gs gz w (w5.setCell ⟨br, 4, none⟩ (.int .i64 (q : Int)))) := ⟨hr5.setA q, ((HF3.out.mono (fun _ _ e => Or.inl e)).trans hs5 (fun _ _ e => e)).trans (Fr.set1 w5 br 4 _) (fun _ _ e => Or.inl e)⟩
      obtain ⟨r0, r1, r2, r3, r4, r5, r6, r7, r8, rf⟩ := cell_of_nine hr5.blk
      clear hr5 hs5
      go_wp2_with fail
      generalize w5.setCell ⟨br, 4, none⟩ (.int .i64 (q : Int)) = w6 at *
      refine (rrenewD_any _ br gt ct gs gz n vb B _ HR5.out.1 HB.out ⟨hq0.1, by have := hq0.2; show q < 65536; omega, HDw.out.clt, HDw.out.tlt, HDw.out.plt⟩ (by have := hq0.2; show q < 32768; omega)).mono ?_
      rintro e w7 ⟨rfl, hr7, hs7⟩
      have HR7 : Hid (RdAt w7 br gt ct gs gz n vb B (getP B o i) ∧ RdStep br gs gz w w7) := by
        rw [HFin.out.2]
        exact ⟨hr7, HR5.out.2.trans hs7⟩
      clear hr7 hs7
      go_wp2_with fail
      go_ret2
      exact ⟨by rw [HFin.out.1]; rfl, HR7.out.1, HR7.out.2⟩
  · have hlow : decide ((C : Int) / 65536 < (q : Int)) = false := decide_eq_false (by omega)
    obtain ⟨cq, HCQ⟩ : ∃ cq, Hid (cq = C - q * 65536) := ⟨_, rfl⟩
    have hcq : (C : Int) - (q : Int) * 65536 = (cq : Int) := by rw [HCQ.out]; omega
    have hcq2 : cq < 4294967296 := by rw [HCQ.out]; omega
    have hS : decS o.s q = { o.s with a := d, c := cq } := by unfold decS; rw [if_neg (by rw [← HCc.out]; exact hl), HDd.out.1, HCQ.out, HCc.out]
    have HR4 : Hid (RdAt (w3.setCell ⟨br, 5, none⟩ (.int .i64 (cq : Int))) br gt ct gs gz n vb B { s := { o.s with a := d, c := cq }, x := o.x, made := o.made + 1 } ∧ RdStep br gs gz w (w3.setCell ⟨br, 5, none⟩ (.int .i64 (cq : Int)))) := ⟨HR3.out.setC cq, (HF3.out.mono (fun _ _ e => Or.inl e)).trans (Fr.set1 w3 br 5 _) (fun _ _ e => Or.inl e)⟩
    by_cases hbig : 32768 ≤ d
    · have hd1 : decide ((32768 : Int) ≤ (d : Int)) = true := decide_eq_true (by omega)
      have hst : decStay o.s q := ⟨by rw [← HCc.out]; exact hl, by rw [HDd.out.1]; exact hbig⟩
      have HFin : Hid (getBit o i = z ∧ getP B o i = { s := { o.s with a := d, c := cq }, x := o.x, made := o.made + 1 }) := by
        rw [HG.out.1, HG.out.2, HEq.out.1, HEq.out.2.1, HEq.out.2.2, if_pos hst, if_pos hst, if_pos hst, hS, list_set_same _ k _ HY.out]
        exact ⟨rfl, rfl⟩
      clear hl hst hS HG HEq
      go_wp2_with fail
      go_ret2
      refine ⟨by rw [HFin.out.1]; rfl, ?_, HR4.out.2⟩
      rw [HFin.out.2]; exact HR4.out.1
    · have hd1 : decide ((32768 : Int) ≤ (d : Int)) = false := decide_eq_false (by omega)
      have hd1' : decide (32768 ≤ d) = false := decide_eq_false hbig
      have hnst : ¬ decStay o.s q := fun h => hbig (by have := h.2; rw [HDd.out.1] at this; exact this)
      by_cases hdq : d < q
      · have hd2 : decide ((d : Int) < (q : Int)) = true := decide_eq_true (by omega)
        have hLk : decLikely o.s q = false := by unfold decLikely; rw [HDd.out.1, ← HCc.out, decide_eq_false hl, decide_eq_true hdq]; rfl
        have HFin : Hid (getBit o i = 1 - z ∧ getP B o i = { s := renewD B 16 { o.s with a := d, c := cq }, x := o.x.set k (learnP false y), made := o.made + 1 }) := by
          rw [HG.out.1, HG.out.2, HEq.out.1, HEq.out.2.1, HEq.out.2.2, if_neg hnst, if_neg hnst, if_neg hnst, hLk, hS]
          exact ⟨rfl, rfl⟩
        have HLn : Hid (Calls Try.prog 85 #[.pointer (some ⟨br, 0, none⟩), .int .i64 (k : Nat)] (w3.setCell ⟨br, 5, none⟩ (.int .i64 (cq : Int))) fun e w' => e = .returned (.tuple #[]) ∧ RdAt w' br gt ct gs gz n vb B { s := { o.s with a := d, c := cq }, x := o.x.set k (learnP false y), made := o.made + 1 } ∧ RdStep br gs gz (w3.setCell ⟨br, 5, none⟩ (.int .i64 (cq : Int))) w') := rlearn_other _ br gt ct gs gz n vb B _ HR4.out.1 HOk.out.cells HLm.out k y hk HY.out
        clear hl hnst hS hLk HG HEq
        go_wp2_with fail
        generalize w3.setCell ⟨br, 5, none⟩ (.int .i64 (cq : Int)) = w4 at *
        refine HLn.out.mono ?_
        rintro e w5 ⟨rfl, hr5, hs5⟩
        have HR5 : Hid (RdAt w5 br gt ct gs gz n vb B { s := { o.s with a := d, c := cq }, x := o.x.set k (learnP false y), made := o.made + 1 } ∧ RdStep br gs gz w w5) := ⟨hr5, HR4.out.2.trans hs5⟩
        clear hr5 hs5
        go_wp2_with fail
        refine (rrenewD_any _ br gt ct gs gz n vb B _ HR5.out.1 HB.out ⟨HDd.out.2, hd65, hcq2, HDw.out.tlt, HDw.out.plt⟩ (by show d < 32768; omega)).mono ?_
        rintro e w7 ⟨rfl, hr7, hs7⟩
        have HR7 : Hid (RdAt w7 br gt ct gs gz n vb B (getP B o i) ∧ RdStep br gs gz w w7) := by
          rw [HFin.out.2]
          exact ⟨hr7, HR5.out.2.trans hs7⟩
        clear hr7 hs7
        go_wp2_with fail
        go_ret2
        exact ⟨by rw [HFin.out.1]; rfl, HR7.out.1, HR7.out.2⟩
      · have hd2 : decide (d < q) = false := decide_eq_false hdq
        have hd3 : decide ((d : Int) < (q : Int)) = false := decide_eq_false (by omega)
        have hLk : decLikely o.s q = true := by unfold decLikely; rw [HDd.out.1, ← HCc.out, decide_eq_false hl, decide_eq_false hdq]; rfl
        have HFin : Hid (getBit o i = z ∧ getP B o i = { s := renewD B 16 { o.s with a := d, c := cq }, x := o.x.set k (learnP true y), made := o.made + 1 }) := by
          rw [HG.out.1, HG.out.2, HEq.out.1, HEq.out.2.1, HEq.out.2.2, if_neg hnst, if_neg hnst, if_neg hnst, hLk, hS]
          exact ⟨rfl, rfl⟩
        have HLn : Hid (Calls Try.prog 84 #[.pointer (some ⟨br, 0, none⟩), .int .i64 (k : Nat)] (w3.setCell ⟨br, 5, none⟩ (.int .i64 (cq : Int))) fun e w' => e = .returned (.tuple #[]) ∧ RdAt w' br gt ct gs gz n vb B { s := { o.s with a := d, c := cq }, x := o.x.set k (learnP true y), made := o.made + 1 } ∧ RdStep br gs gz (w3.setCell ⟨br, 5, none⟩ (.int .i64 (cq : Int))) w') := rlearn_likely _ br gt ct gs gz n vb B _ HR4.out.1 HOk.out.cells HLm.out k y hk HY.out
        clear hl hnst hS hLk HG HEq
        go_wp2_with fail
        generalize w3.setCell ⟨br, 5, none⟩ (.int .i64 (cq : Int)) = w4 at *
        refine HLn.out.mono ?_
        rintro e w5 ⟨rfl, hr5, hs5⟩
        have HR5 : Hid (RdAt w5 br gt ct gs gz n vb B { s := { o.s with a := d, c := cq }, x := o.x.set k (learnP true y), made := o.made + 1 } ∧ RdStep br gs gz w w5) := ⟨hr5, HR4.out.2.trans hs5⟩
        clear hr5 hs5
        go_wp2_with fail
        refine (rrenewD_any _ br gt ct gs gz n vb B _ HR5.out.1 HB.out ⟨HDd.out.2, hd65, hcq2, HDw.out.tlt, HDw.out.plt⟩ (by show d < 32768; omega)).mono ?_
        rintro e w7 ⟨rfl, hr7, hs7⟩
        have HR7 : Hid (RdAt w7 br gt ct gs gz n vb B (getP B o i) ∧ RdStep br gs gz w w7) := by
          rw [HFin.out.2]
          exact ⟨hr7, HR5.out.2.trans hs7⟩
        clear hr7 hs7
        go_wp2_with fail
        go_ret2
        exact ⟨by rw [HFin.out.1]; rfl, HR7.out.1, HR7.out.2⟩

end Go.Proofs.Ytkggdnkmaldmlaa
