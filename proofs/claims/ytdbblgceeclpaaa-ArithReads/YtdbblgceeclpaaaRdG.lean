/- The reference's decoder: 'Get'. -/
import Derived.BigQuiet
import Derived.Test.YtdbblgceeclpaaaRdL
namespace Go.Proofs.Ytdbblgceeclpaaa
open Go.RowKit

set_option maxRecDepth 100000 in
set_option maxHeartbeats 8000000 in
theorem rget_any (w : World) (br gt ct gs gz n : Nat) (vb : Value) (B : List Nat) (o : De) (h : RdAt w br gt ct gs gz n vb B o) (hok : Eok B o) (hm : o.made < 16777216) (i : Int) (hi : -9223372036854775808 ≤ i ∧ i ≤ 9223372036854775807) :
    Calls Try.prog 27 #[.pointer (some ⟨br, 0, none⟩), .int .i64 i] w fun e w' => e = .returned (.tuple #[.int .i64 (getBit o i : Nat), .int .i64 0]) ∧ RdAt w' br gt ct gs gz n vb B (getP B o i) ∧ RdStep br gs gz w w' := by
  obtain ⟨e0, e1, e2, e3, e4, e5, e6, e7, e8, ef⟩ := cell_of_nine h.blk
  have hlen := h.len
  have hpos := hok.pos
  have hlim := hok.lim
  rw [hlen] at hpos hlim
  obtain ⟨k, hK⟩ : ∃ k, placeOf i n = k := ⟨_, rfl⟩
  have hk : k < n := by rw [← hK]; exact placeOf_lt i hpos
  have h1 := h.setMade (o.made + 1)
  rw [show ((o.made + 1 : Nat) : Int) = (o.made : Int) + 1 by push_cast; rfl] at h1
  obtain ⟨y, hy⟩ : ∃ y, o.x.getD k 0 = y := ⟨_, rfl⟩
  have HG : Hid (getBit o i = decBit o.s y ∧ getP B o i = { s := decP B o.s y, x := o.x.set k (decX o.s y), made := o.made + 1 }) := by
    unfold getBit getP
    rw [hlen, hK, hy]
    exact ⟨rfl, rfl⟩
  have hc1 := h1.ctx hk hok.cells
  dsimp only at hc1
  rw [hy] at hc1
  have hy94 : y < 94 := by rw [← hy]; exact getD_lt hok.cells k
  have hq0 := rQ_bd (y / 2) (by omega)
  have hhalf := hok.ok.half
  have halt := hok.ok.dw.alt
  have hclt := hok.ok.dw.clt
  obtain ⟨q, Hq⟩ : ∃ q, Hid (q = rQ (y / 2)) := ⟨_, rfl⟩
  rw [← Hq.out] at hc1 hq0
  obtain ⟨z, Hz⟩ : ∃ z, Hid (z = y % 2) := ⟨_, rfl⟩
  have hz2 : z < 2 := by rw [Hz.out]; omega
  rw [← Hz.out] at hc1
  obtain ⟨s, Hs⟩ : ∃ s, Hid (s = y / 2) := ⟨_, rfl⟩
  have hs47 : s < 47 := by rw [Hs.out]; omega
  rw [← Hs.out] at hc1
  have HI : Hid (Calls Try.prog 41 #[.pointer (some ⟨br, 0, none⟩), .int .i64 i] (w.setCell ⟨br, 3, none⟩ (.int .i64 ((o.made : Int) + 1))) fun e w' => e = .returned (.int .i64 (k : Nat)) ∧ w' = w.setCell ⟨br, 3, none⟩ (.int .i64 ((o.made : Int) + 1))) := by
    rw [← hK]
    exact rindex_at _ br gs n i hi hpos hlim hc1.e1
  have HOk : Hid (Eok B o) := hok
  have HY : Hid (o.x.getD k 0 = y) := hy
  have HLm : Hid (n ≤ 131072) := hlim
  have ef3 := ef 3
  have c0 := hc1.cs
  have c1 := hc1.cz
  have c2 := hc1.cq
  have c3 := hc1.e0
  have c4 := hc1.e1
  have c5 := hc1.e2
  obtain ⟨w1, hw1⟩ : ∃ w1, w.setCell ⟨br, 3, none⟩ (.int .i64 ((o.made : Int) + 1)) = w1 := ⟨_, rfl⟩
  have F1 : Hid (Fr (fun j => j = br) w w1) := by rw [← hw1]; exact Fr.set1 w br 3 _
  rw [hw1] at h1 c0 c1 c2 c3 c4 c5 HI
  have H1 : Hid (RdAt w1 br gt ct gs gz n vb B { o with made := o.made + 1 }) := h1
  obtain ⟨f0, f1, f2, f3, f4, f5, f6, f7, f8, ff⟩ := cell_of_nine h1.blk
  have k1 : IntKind.i64.wrap ((o.made : Int) + 1) = (o.made : Int) + 1 := by rw [IntKind.wrap_i64]; omega
  have km : ((o.made : Int) == 16777216) = false := by simp; omega
  have km2 : decide (o.made = 16777216) = false := decide_eq_false (by omega)
  clear ef e0 e1 e2 e4 e5 e6 e7 e8 h1 hc1 hy hok hK h hlen hpos hlim hi
  go_enter Try.func27, Try.ntmps27
  go_wp2_with fail
  refine HI.out.mono ?_
  rintro e w2 ⟨rfl, hw2⟩
  obtain rfl := hw2.symm
  go_wp2_with fail
  go_quiet (fail)
  have hnx := H1.out.keptAll ((Fr.refl (fun _ => False) w1).drewN nq)
  have Fn : Fr (fun j => j = br) w (w1.drewN nq) := F1.out.drewN nq
  generalize w1.drewN nq = wn at *
  obtain ⟨d, hd⟩ : ∃ d, o.s.a - q = d := ⟨_, rfl⟩
  have k2 : IntKind.i64.wrap ((o.s.a : Int) - (q : Int)) = (d : Int) := by rw [IntKind.wrap_i64]; omega
  clear f0 f1 f2 f3 f4 f5 f6 f7 f8 ff c0 c1 c2 c3 c4 c5
  obtain ⟨g0, g1, g2, g3, g4, g5, g6, g7, g8, gf⟩ := cell_of_nine hnx.blk
  have hcn := hnx.ctx hk HOk.out.cells
  dsimp only at hcn g4 g5
  rw [HY.out, ← Hz.out] at hcn
  have pz := hcn.cz
  have gf4 := gf 4
  have h3 := hnx.setA d
  have HR3 : Hid (RdAt (wn.setCell ⟨br, 4, none⟩ (.int .i64 (d : Int))) br gt ct gs gz n vb B { o with made := o.made + 1, s := { o.s with a := d } }) := h3
  have HF3 : Hid (Fr (fun j => j = br) w (wn.setCell ⟨br, 4, none⟩ (.int .i64 (d : Int)))) := Fr.trans Fn (Fr.set1 wn br 4 _) (fun _ _ h => h)
  have hd65 : d < 65536 := by omega
  have HDd : Hid (o.s.a - q = d ∧ 1 ≤ d) := ⟨hd, by omega⟩
  obtain ⟨w3, hw3⟩ : ∃ w3, wn.setCell ⟨br, 4, none⟩ (.int .i64 (d : Int)) = w3 := ⟨_, rfl⟩
  rw [hw3] at HR3 HF3
  obtain ⟨p0, p1, p2, p3, p4, p5, p6, p7, p8, pf⟩ := cell_of_nine HR3.out.blk
  dsimp only at p4 p5
  clear hnx Fn gf hcn h3 hd
  obtain ⟨C, HCc⟩ : ∃ C, Hid (C = o.s.c) := ⟨_, rfl⟩
  rw [← HCc.out] at p5 g5 hclt
  have HEq : Hid (decBit o.s y = (if decStay o.s q then z else if decLikely o.s q then z else 1 - z) ∧ decP B o.s y = (if decStay o.s q then decS o.s q else renewD B 16 (decS o.s q)) ∧ decX o.s y = (if decStay o.s q then y else learnP (decLikely o.s q) y)) := by
    unfold decBit decP decX
    rw [← Hq.out, ← Hz.out]
    exact ⟨rfl, rfl, rfl⟩
  have HDw : Hid (Dw B o.s) := HOk.out.ok.dw
  have HB : Hid (∀ y ∈ B, y < 256) := HOk.out.bytes
  have hdz : (1 : Int) - (z : Int) = ((1 - z : Nat) : Int) := by omega
  by_cases hl : C / 65536 < q
  · have hlow : decide ((C : Int) / 65536 < (q : Int)) = true := decide_eq_true (by omega)
    have hnst : ¬ decStay o.s q := fun h => h.1 (by rw [← HCc.out]; exact hl)
    have hS : decS o.s q = { o.s with a := q } := by unfold decS; rw [if_pos (by rw [← HCc.out]; exact hl)]
    by_cases hdq : d < q
    · have hd2 : decide ((d : Int) < (q : Int)) = true := decide_eq_true (by omega)
      have hLk : decLikely o.s q = true := by unfold decLikely; rw [HDd.out.1, ← HCc.out, decide_eq_true hl, decide_eq_true hdq]; rfl
      have HFin : Hid (getBit o i = z ∧ getP B o i = { s := renewD B 16 { o.s with a := q }, x := o.x.set k (learnP true y), made := o.made + 1 }) := by
        rw [HG.out.1, HG.out.2, HEq.out.1, HEq.out.2.1, HEq.out.2.2, if_neg hnst, if_neg hnst, if_neg hnst, hLk, hS]
        exact ⟨rfl, rfl⟩
      have HLn : Hid (Calls Try.prog 42 #[.pointer (some ⟨br, 0, none⟩), .int .i64 (k : Nat)] w3 fun e w' => e = .returned (.tuple #[]) ∧ RdAt w' br gt ct gs gz n vb B { s := { o.s with a := d }, x := o.x.set k (learnP true y), made := o.made + 1 } ∧ RdStep br gs gz w3 w') := rlearn_likely w3 br gt ct gs gz n vb B _ HR3.out HOk.out.cells HLm.out k y hk HY.out
      clear hl hnst hS hLk HG HEq
      go_wp2_with fail
      refine HLn.out.mono ?_
      rintro e w5 ⟨rfl, hr5, hs5⟩
      have HR5 : Hid (RdAt (w5.setCell ⟨br, 4, none⟩ (.int .i64 (q : Int))) br gt ct gs gz n vb B { s := { o.s with a := q }, x := o.x.set k (learnP true y), made := o.made + 1 } ∧ RdStep br gs gz w (w5.setCell ⟨br, 4, none⟩ (.int .i64 (q : Int)))) := ⟨hr5.setA q, ((HF3.out.mono (fun _ _ e => Or.inl e)).trans hs5 (fun _ _ e => e)).trans (Fr.set1 w5 br 4 _) (fun _ _ e => Or.inl e)⟩
      obtain ⟨r0, r1, r2, r3, r4, r5, r6, r7, r8, rf⟩ := cell_of_nine hr5.blk
      clear hr5 hs5
      go_wp2_with fail
      generalize w5.setCell ⟨br, 4, none⟩ (.int .i64 (q : Int)) = w6 at *
      refine (rrenewD_any _ br gt ct gs gz n vb B _ HR5.out.1 HB.out ⟨hq0.1, by have := hq0.2; show q < 65536; omega, HDw.out.clt, HDw.out.tlt, HDw.out.plt⟩ (by have := hq0.2; show q < 32768; omega)).mono ?_
      rintro e w7 ⟨rfl, hr7, hs7⟩
      have HR7 : Hid (RdAt w7 br gt ct gs gz n vb B (getP B o i) ∧ RdStep br gs gz w w7) := by
        rw [HFin.out.2]
        exact ⟨hr7, HR5.out.2.trans hs7⟩
      clear hr7 hs7
      go_wp2_with fail
      go_ret2
      exact ⟨by rw [HFin.out.1]; rfl, HR7.out.1, HR7.out.2⟩
    · have hd2 : decide (d < q) = false := decide_eq_false hdq
      have hd3 : decide ((d : Int) < (q : Int)) = false := decide_eq_false (by omega)
      have hLk : decLikely o.s q = false := by unfold decLikely; rw [HDd.out.1, ← HCc.out, decide_eq_true hl, decide_eq_false hdq]; rfl
      have HFin : Hid (getBit o i = 1 - z ∧ getP B o i = { s := renewD B 16 { o.s with a := q }, x := o.x.set k (learnP false y), made := o.made + 1 }) := by
        rw [HG.out.1, HG.out.2, HEq.out.1, HEq.out.2.1, HEq.out.2.2, if_neg hnst, if_neg hnst, if_neg hnst, hLk, hS]
        exact ⟨rfl, rfl⟩
      have HLn : Hid (Calls Try.prog 43 #[.pointer (some ⟨br, 0, none⟩), .int .i64 (k : Nat)] w3 fun e w' => e = .returned (.tuple #[]) ∧ RdAt w' br gt ct gs gz n vb B { s := { o.s with a := d }, x := o.x.set k (learnP false y), made := o.made + 1 } ∧ RdStep br gs gz w3 w') := rlearn_other w3 br gt ct gs gz n vb B _ HR3.out HOk.out.cells HLm.out k y hk HY.out
      clear hl hnst hS hLk HG HEq
      go_wp2_with fail
      refine HLn.out.mono ?_
      rintro e w5 ⟨rfl, hr5, hs5⟩
      have HR5 : Hid (RdAt (w5.setCell ⟨br, 4, none⟩ (.int .i64 (q : Int))) br gt ct gs gz n vb B { s := { o.s with a := q }, x := o.x.set k (learnP false y), made := o.made + 1 } ∧ RdStep br gs gz w (w5.setCell ⟨br, 4, none⟩ (.int .i64 (q : Int)))) := ⟨hr5.setA q, ((HF3.out.mono (fun _ _ e => Or.inl e)).trans hs5 (fun _ _ e => e)).trans (Fr.set1 w5 br 4 _) (fun _ _ e => Or.inl e)⟩
      obtain ⟨r0, r1, r2, r3, r4, r5, r6, r7, r8, rf⟩ := cell_of_nine hr5.blk
      clear hr5 hs5
      go_wp2_with fail
      generalize w5.setCell ⟨br, 4, none⟩ (.int .i64 (q : Int)) = w6 at *
      refine (rrenewD_any _ br gt ct gs gz n vb B _ HR5.out.1 HB.out ⟨hq0.1, by have := hq0.2; show q < 65536; omega, HDw.out.clt, HDw.out.tlt, HDw.out.plt⟩ (by have := hq0.2; show q < 32768; omega)).mono ?_
      rintro e w7 ⟨rfl, hr7, hs7⟩
      have HR7 : Hid (RdAt w7 br gt ct gs gz n vb B (getP B o i) ∧ RdStep br gs gz w w7) := by
        rw [HFin.out.2]
        exact ⟨hr7, HR5.out.2.trans hs7⟩
      clear hr7 hs7
      go_wp2_with fail
      go_ret2
      exact ⟨by rw [HFin.out.1]; rfl, HR7.out.1, HR7.out.2⟩
  · have hlow : decide ((C : Int) / 65536 < (q : Int)) = false := decide_eq_false (by omega)
    obtain ⟨cq, HCQ⟩ : ∃ cq, Hid (cq = C - q * 65536) := ⟨_, rfl⟩
    have hcq : (C : Int) - (q : Int) * 65536 = (cq : Int) := by rw [HCQ.out]; omega
    have hcq2 : cq < 4294967296 := by rw [HCQ.out]; omega
    have hS : decS o.s q = { o.s with a := d, c := cq } := by unfold decS; rw [if_neg (by rw [← HCc.out]; exact hl), HDd.out.1, HCQ.out, HCc.out]
    have HR4 : Hid (RdAt (w3.setCell ⟨br, 5, none⟩ (.int .i64 (cq : Int))) br gt ct gs gz n vb B { s := { o.s with a := d, c := cq }, x := o.x, made := o.made + 1 } ∧ RdStep br gs gz w (w3.setCell ⟨br, 5, none⟩ (.int .i64 (cq : Int)))) := ⟨HR3.out.setC cq, (HF3.out.mono (fun _ _ e => Or.inl e)).trans (Fr.set1 w3 br 5 _) (fun _ _ e => Or.inl e)⟩
    by_cases hbig : 32768 ≤ d
    · have hd1 : decide ((32768 : Int) ≤ (d : Int)) = true := decide_eq_true (by omega)
      have hst : decStay o.s q := ⟨by rw [← HCc.out]; exact hl, by rw [HDd.out.1]; exact hbig⟩
      have HFin : Hid (getBit o i = z ∧ getP B o i = { s := { o.s with a := d, c := cq }, x := o.x, made := o.made + 1 }) := by
        rw [HG.out.1, HG.out.2, HEq.out.1, HEq.out.2.1, HEq.out.2.2, if_pos hst, if_pos hst, if_pos hst, hS, list_set_same _ k _ HY.out]
        exact ⟨rfl, rfl⟩
      clear hl hst hS HG HEq
      go_wp2_with fail
      go_ret2
      refine ⟨by rw [HFin.out.1]; rfl, ?_, HR4.out.2⟩
      rw [HFin.out.2]; exact HR4.out.1
    · have hd1 : decide ((32768 : Int) ≤ (d : Int)) = false := decide_eq_false (by omega)
      have hd1' : decide (32768 ≤ d) = false := decide_eq_false hbig
      have hnst : ¬ decStay o.s q := fun h => hbig (by have := h.2; rw [HDd.out.1] at this; exact this)
      by_cases hdq : d < q
      · have hd2 : decide ((d : Int) < (q : Int)) = true := decide_eq_true (by omega)
        have hLk : decLikely o.s q = false := by unfold decLikely; rw [HDd.out.1, ← HCc.out, decide_eq_false hl, decide_eq_true hdq]; rfl
        have HFin : Hid (getBit o i = 1 - z ∧ getP B o i = { s := renewD B 16 { o.s with a := d, c := cq }, x := o.x.set k (learnP false y), made := o.made + 1 }) := by
          rw [HG.out.1, HG.out.2, HEq.out.1, HEq.out.2.1, HEq.out.2.2, if_neg hnst, if_neg hnst, if_neg hnst, hLk, hS]
          exact ⟨rfl, rfl⟩
        have HLn : Hid (Calls Try.prog 43 #[.pointer (some ⟨br, 0, none⟩), .int .i64 (k : Nat)] (w3.setCell ⟨br, 5, none⟩ (.int .i64 (cq : Int))) fun e w' => e = .returned (.tuple #[]) ∧ RdAt w' br gt ct gs gz n vb B { s := { o.s with a := d, c := cq }, x := o.x.set k (learnP false y), made := o.made + 1 } ∧ RdStep br gs gz (w3.setCell ⟨br, 5, none⟩ (.int .i64 (cq : Int))) w') := rlearn_other _ br gt ct gs gz n vb B _ HR4.out.1 HOk.out.cells HLm.out k y hk HY.out
        clear hl hnst hS hLk HG HEq
        go_wp2_with fail
        generalize w3.setCell ⟨br, 5, none⟩ (.int .i64 (cq : Int)) = w4 at *
        refine HLn.out.mono ?_
        rintro e w5 ⟨rfl, hr5, hs5⟩
        have HR5 : Hid (RdAt w5 br gt ct gs gz n vb B { s := { o.s with a := d, c := cq }, x := o.x.set k (learnP false y), made := o.made + 1 } ∧ RdStep br gs gz w w5) := ⟨hr5, HR4.out.2.trans hs5⟩
        clear hr5 hs5
        go_wp2_with fail
        refine (rrenewD_any _ br gt ct gs gz n vb B _ HR5.out.1 HB.out ⟨HDd.out.2, hd65, hcq2, HDw.out.tlt, HDw.out.plt⟩ (by show d < 32768; omega)).mono ?_
        rintro e w7 ⟨rfl, hr7, hs7⟩
        have HR7 : Hid (RdAt w7 br gt ct gs gz n vb B (getP B o i) ∧ RdStep br gs gz w w7) := by
          rw [HFin.out.2]
          exact ⟨hr7, HR5.out.2.trans hs7⟩
        clear hr7 hs7
        go_wp2_with fail
        go_ret2
        exact ⟨by rw [HFin.out.1]; rfl, HR7.out.1, HR7.out.2⟩
      · have hd2 : decide (d < q) = false := decide_eq_false hdq
        have hd3 : decide ((d : Int) < (q : Int)) = false := decide_eq_false (by omega)
        have hLk : decLikely o.s q = true := by unfold decLikely; rw [HDd.out.1, ← HCc.out, decide_eq_false hl, decide_eq_false hdq]; rfl
        have HFin : Hid (getBit o i = z ∧ getP B o i = { s := renewD B 16 { o.s with a := d, c := cq }, x := o.x.set k (learnP true y), made := o.made + 1 }) := by
          rw [HG.out.1, HG.out.2, HEq.out.1, HEq.out.2.1, HEq.out.2.2, if_neg hnst, if_neg hnst, if_neg hnst, hLk, hS]
          exact ⟨rfl, rfl⟩
        have HLn : Hid (Calls Try.prog 42 #[.pointer (some ⟨br, 0, none⟩), .int .i64 (k : Nat)] (w3.setCell ⟨br, 5, none⟩ (.int .i64 (cq : Int))) fun e w' => e = .returned (.tuple #[]) ∧ RdAt w' br gt ct gs gz n vb B { s := { o.s with a := d, c := cq }, x := o.x.set k (learnP true y), made := o.made + 1 } ∧ RdStep br gs gz (w3.setCell ⟨br, 5, none⟩ (.int .i64 (cq : Int))) w') := rlearn_likely _ br gt ct gs gz n vb B _ HR4.out.1 HOk.out.cells HLm.out k y hk HY.out
        clear hl hnst hS hLk HG HEq
        go_wp2_with fail
        generalize w3.setCell ⟨br, 5, none⟩ (.int .i64 (cq : Int)) = w4 at *
        refine HLn.out.mono ?_
        rintro e w5 ⟨rfl, hr5, hs5⟩
        have HR5 : Hid (RdAt w5 br gt ct gs gz n vb B { s := { o.s with a := d, c := cq }, x := o.x.set k (learnP true y), made := o.made + 1 } ∧ RdStep br gs gz w w5) := ⟨hr5, HR4.out.2.trans hs5⟩
        clear hr5 hs5
        go_wp2_with fail
        refine (rrenewD_any _ br gt ct gs gz n vb B _ HR5.out.1 HB.out ⟨HDd.out.2, hd65, hcq2, HDw.out.tlt, HDw.out.plt⟩ (by show d < 32768; omega)).mono ?_
        rintro e w7 ⟨rfl, hr7, hs7⟩
        have HR7 : Hid (RdAt w7 br gt ct gs gz n vb B (getP B o i) ∧ RdStep br gs gz w w7) := by
          rw [HFin.out.2]
          exact ⟨hr7, HR5.out.2.trans hs7⟩
        clear hr7 hs7
        go_wp2_with fail
        go_ret2
        exact ⟨by rw [HFin.out.1]; rfl, HR7.out.1, HR7.out.2⟩

end Go.Proofs.Ytdbblgceeclpaaa
