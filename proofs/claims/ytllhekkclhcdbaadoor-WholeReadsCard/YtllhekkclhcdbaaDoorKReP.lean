/- The reference's coder: 'Put'. -/
import Derived.BigQuiet
import Derived.Test.YtllhekkclhcdbaaDoorKReN
namespace Go.Proofs.YtllhekkclhcdbaaDoor
open Go.RowKit

/-- What is at hand of a context. -/
structure RCtx (w : World) (br gt ct gs gz n k s z q : Nat) : Prop where
  e0 : w.cell? ⟨br, 0, none⟩ = some (.slice (some ⟨gt, 0, none⟩) 47 ct)
  e1 : w.cell? ⟨br, 1, none⟩ = some (.slice (some ⟨gs, 0, none⟩) n n)
  e2 : w.cell? ⟨br, 2, none⟩ = some (.slice (some ⟨gz, 0, none⟩) n n)
  cs : w.cell? ⟨gs, k, none⟩ = some (.int .i64 (s : Int))
  cz : w.cell? ⟨gz, k, none⟩ = some (.int .i64 (z : Int))
  cq : w.cell? ⟨gt, s * 4, none⟩ = some (.int .i64 (q : Int))
  cm : w.cell? ⟨gt, s * 4 + 1, none⟩ = some (.int .i64 (rM s : Int))
  cl : w.cell? ⟨gt, s * 4 + 2, none⟩ = some (.int .i64 (rL s : Int))
  cb : w.cell? ⟨gt, s * 4 + 3, none⟩ = some (.bool (rS s))
  fs : w.frozen? ⟨gs, k, none⟩ = false
  fz : w.frozen? ⟨gz, k, none⟩ = false
theorem ReAt.ctx {w : World} {br gt ct gs gz n gb cb : Nat} {o : Co} {d : Bool} (h : ReAt w br gt ct gs gz n gb cb o d) {k : Nat} (hk : k < n) (hx : ∀ y ∈ o.x, y < 94) :
    RCtx w br gt ct gs gz n k (o.x.getD k 0 / 2) (o.x.getD k 0 % 2) (rQ (o.x.getD k 0 / 2)) := by
  obtain ⟨e0, e1, e2, e3, e4, e5, e6, e7, e8, ef⟩ := cell_of_nine h.blk
  have hlen := h.len
  have hy : o.x.getD k 0 < 94 := getD_lt hx k
  obtain ⟨t0, t1, t2, t3⟩ := tabCells_get 47 (o.x.getD k 0 / 2) (by omega)
  refine ⟨e0, e1, e2, ?_, ?_, ?_, ?_, ?_, ?_, h.st.frozenAt k, h.bt.frozenAt k⟩
  · rw [h.st.cellAt k (by omega), intCells_getD _ k (by rw [List.length_map, hlen]; exact hk)]
    congr 3
    rw [List.getD_eq_getElem?_getD, List.getD_eq_getElem?_getD, List.getElem?_map]
    cases o.x[k]? <;> rfl
  · rw [h.bt.cellAt k (by omega), intCells_getD _ k (by rw [List.length_map, hlen]; exact hk)]
    congr 3
    rw [List.getD_eq_getElem?_getD, List.getD_eq_getElem?_getD, List.getElem?_map]
    cases o.x[k]? <;> rfl
  · rw [h.tab.cellAt _ (by omega)]; exact t0
  · rw [h.tab.cellAt _ (by omega)]; exact t1
  · rw [h.tab.cellAt _ (by omega)]; exact t2
  · rw [h.tab.cellAt _ (by omega)]; exact t3

theorem ReAt.ctx2 {w : World} {br gt ct gs gz n gb cb : Nat} {o : Co} {d : Bool} (h : ReAt w br gt ct gs gz n gb cb o d) {k y s z q : Nat} (hk : k < n) (hx : ∀ y ∈ o.x, y < 94) (hy : o.x.getD k 0 = y) (hs : y / 2 = s) (hz : y % 2 = z) (hq : rQ s = q) : RCtx w br gt ct gs gz n k s z q := by
  have := h.ctx hk hx
  rw [hy, hs, hz, hq] at this
  exact this

theorem list_set_same (x : List Nat) (k v : Nat) (h : x.getD k 0 = v) : x.set k v = x := by
  rw [← h]
  apply List.ext_getElem?
  intro i
  rw [List.getElem?_set]
  split
  · rename_i e
    subst e
    split
    · rename_i hl
      rw [List.getD_eq_getElem?_getD, List.getElem?_eq_getElem hl]; rfl
    · rename_i hl
      rw [List.getElem?_eq_none (by omega)]
  · rfl
theorem putP_stay (o : Co) (i : Int) (bit k y s z q d : Nat) (hk : placeOf i o.x.length = k) (hy : o.x.getD k 0 = y) (hs : y / 2 = s) (hz : y % 2 = z) (hq : rQ s = q) (hd : o.s.a - q = d) (h : bit = z ∧ 32768 ≤ d) : putP o i bit = { s := { o.s with a := d, c := o.s.c + q }, x := o.x, made := o.made + 1 } := by
  unfold putP codeP codeX
  rw [hk, hy, hs, hz, hq, hd, if_pos h, if_pos h, list_set_same _ k _ hy]
theorem putP_turn (o : Co) (i : Int) (bit k y s z q d : Nat) (hk : placeOf i o.x.length = k) (hy : o.x.getD k 0 = y) (hs : y / 2 = s) (hz : y % 2 = z) (hq : rQ s = q) (hd : o.s.a - q = d) (h : ¬ (bit = z ∧ 32768 ≤ d)) : putP o i bit = { s := renewP 16 (codeS o.s q (decide (bit = z))), x := o.x.set k (learnP (decide (bit = z)) y), made := o.made + 1 } := by
  unfold putP codeP codeX
  rw [hk, hy, hs, hz, hq, hd, if_neg h, if_neg h]
/-- A state alone is written: the bit stays. -/
theorem ReAt.setS {w : World} {br gt ct gs gz n gb cb : Nat} {o : Co} {d : Bool} (h : ReAt w br gt ct gs gz n gb cb o d) (k v : Nat) (hv : (o.x.map (· % 2)).getD k 0 = v % 2) : ReAt (w.setCell ⟨gs, k, none⟩ (.int .i64 ((v / 2 : Nat) : Int))) br gt ct gs gz n gb cb { o with x := o.x.set k v } d := by
  obtain ⟨n1, n2, n3, n4, n5, n6, n7, n8, n9⟩ := h.nes
  have f := Fr.set1 w gs k (.int .i64 ((v / 2 : Nat) : Int))
  refine ⟨?_, row_kept1 h.tab f (fun e => n5 e.symm), ?_, ?_, row_kept1 h.bs f (fun e => n8 e), h.ne, by simp only [List.length_set]; exact h.len⟩
  · rw [f.block br h.lt (fun e => n2 e.symm)]; exact h.blk
  · have := (h.st.stored k (.int .i64 ((v / 2 : Nat) : Int))).1
    rw [intCells_set] at this
    simp only [List.map_set]; exact this
  · have := row_kept1 h.bt f (fun e => h.ne e.symm)
    simp only [List.map_set]
    rw [list_set_same _ k _ hv]
    exact this

set_option maxRecDepth 100000 in
set_option maxHeartbeats 8000000 in
theorem rput_any (w : World) (br gt ct gs gz n gb cb : Nat) (o : Co) (h : ReAt w br gt ct gs gz n gb cb o false) (hok : Ook o) (hm : o.made < 16777216) (i : Int) (hi : -9223372036854775808 ≤ i ∧ i ≤ 9223372036854775807) (bit : Nat) (hbit : bit < 2) :
    Calls Tryd.prog 46 #[.pointer (some ⟨br, 0, none⟩), .int .i64 i, .int .i64 bit] w fun e w' => e = .returned (.int .i64 0) ∧ ∃ gb' cb', ReAt w' br gt ct gs gz n gb' cb' (putP o i bit) false ∧ RStep br gs gz gb gb' w w' := by
  obtain ⟨e0, e1, e2, e3, e4, e5, e6, e7, e8, ef⟩ := cell_of_nine h.blk
  have hlen := h.len
  have hpos := hok.pos
  have hlim := hok.lim
  rw [hlen] at hpos hlim
  obtain ⟨k, hK⟩ : ∃ k, placeOf i n = k := ⟨_, rfl⟩
  have hk : k < n := by rw [← hK]; exact placeOf_lt i hpos
  have h1 := h.setMade (o.made + 1)
  rw [show ((o.made + 1 : Nat) : Int) = (o.made : Int) + 1 by push_cast; rfl] at h1
  have hc1 := h1.ctx hk hok.cells
  have hq0 := rQ_bd (o.x.getD k 0 / 2) (by have := getD_lt hok.cells k; omega)
  have hhalf := hok.ok.half
  have halt := hok.ok.cw.alt
  have HY : Hid (o.x.getD (placeOf i o.x.length) 0 = o.x.getD k 0 ∧ placeOf i o.x.length = k ∧ o.x.getD k 0 < 94) := ⟨by rw [hlen, hK], by rw [hlen, hK], getD_lt hok.cells k⟩
  dsimp only at hc1
  obtain ⟨y, hy⟩ : ∃ y, o.x.getD k 0 = y := ⟨_, rfl⟩
  rw [hy] at hc1 hq0 HY
  obtain ⟨s, hs⟩ : ∃ s, y / 2 = s := ⟨_, rfl⟩
  obtain ⟨z, hz⟩ : ∃ z, y % 2 = z := ⟨_, rfl⟩
  rw [hs, hz] at hc1
  rw [hs] at hq0
  obtain ⟨q, hq⟩ : ∃ q, rQ s = q := ⟨_, rfl⟩
  rw [hq] at hc1 hq0
  have HS : Hid (y / 2 = s ∧ y % 2 = z ∧ rQ s = q ∧ s < 47 ∧ z < 2 ∧ o.x.getD k 0 = y) := ⟨hs, hz, hq, by have := HY.out; omega, by omega, hy⟩
  obtain ⟨w1, hw1⟩ : ∃ w1, w.setCell ⟨br, 3, none⟩ (.int .i64 ((o.made : Int) + 1)) = w1 := ⟨_, rfl⟩
  have F1 : Hid (Fr (fun j => j = br) w w1) := by rw [← hw1]; exact Fr.set1 w br 3 _
  rw [hw1] at h1 hc1
  have H1 : Hid (ReAt w1 br gt ct gs gz n gb cb { o with made := o.made + 1 } false) := h1
  have HC1 : Hid (RCtx w1 br gt ct gs gz n k s z q) := hc1
  obtain ⟨f0, f1, f2, f3, f4, f5, f6, f7, f8, ff⟩ := cell_of_nine h1.blk
  have k1 : IntKind.i64.wrap ((o.made : Int) + 1) = (o.made : Int) + 1 := by rw [IntKind.wrap_i64]; omega
  have km : ((o.made : Int) == 16777216) = false := by simp; omega
  have km2 : decide (o.made = 16777216) = false := decide_eq_false (by omega)
  have HO : Hid (Ook o ∧ 32768 ≤ o.s.a ∧ o.s.a < 65536 ∧ (1 ≤ q ∧ q ≤ 22017) ∧ bit < 2 ∧ o.made < 16777216 ∧ k < n ∧ n ≤ 131072 ∧ 1 ≤ n) := ⟨hok, hhalf, halt, hq0, hbit, hm, hk, hlim, hpos⟩
  have HI : Hid (-9223372036854775808 ≤ i ∧ i ≤ 9223372036854775807) := hi
  have HK : Hid (placeOf i n = k) := hK
  have ef3 := ef 3
  have c0 := hc1.cs
  have c1 := hc1.cz
  have c2 := hc1.cq
  clear ef e0 e1 e2 e4 e5 e6 e7 h1 hc1 hy hs hz hq hok hhalf halt hq0 hm hi hK h hlen hpos hlim
  have hb01 : bit = 0 ∨ bit = 1 := by omega
  rcases hb01 with hb | hb
  · have hb0 : ((bit : Int) != 0) = false := by simp [hb]
    have Hb : Hid (bit = 0) := hb
    clear hb hbit
    go_enter Tryd.func46, Tryd.ntmps46
    go_wp2_with fail
    refine (rindex_at _ br gs n i HI.out HO.out.2.2.2.2.2.2.2.2 HO.out.2.2.2.2.2.2.2.1 f1).mono ?_
    rintro e w2 ⟨he, hw2⟩
    obtain rfl := hw2.symm
    rw [HK.out] at he
    subst he
    have hk := HO.out.2.2.2.2.2.2.1
    have hs47 : s < 47 := HS.out.2.2.2.1
    go_wp2_with fail
    go_quiet (fail)
    have hnx := H1.out.kept (Fr.drewN (Fr.refl (fun _ => False) w1) nq) (fun h => h) (fun h => h) (fun h => h) (fun h => h) (fun h => h)
    have Fn : Fr (fun j => j = br) w (w1.drewN nq) := F1.out.drewN nq
    generalize w1.drewN nq = wn at *
    obtain ⟨hoo, hhalf, halt, hq0, hbit, hm, hkk, hlim, hpos⟩ := HO.out
    obtain ⟨hs, hz, hq, _, hz2, hyy⟩ := HS.out
    obtain ⟨d, hd⟩ : ∃ d, o.s.a - q = d := ⟨_, rfl⟩
    have k2 : IntKind.i64.wrap ((o.s.a : Int) - (q : Int)) = (d : Int) := by rw [IntKind.wrap_i64]; omega
    obtain ⟨g0, g1, g2, g3, g4, g5, g6, g7, g8, gf⟩ := cell_of_nine hnx.blk
    have gf4 := gf 4
    have h3 := hnx.setA d
    have F3 : Fr (fun j => j = br) w (wn.setCell ⟨br, 4, none⟩ (.int .i64 (d : Int))) := Fr.trans Fn (Fr.set1 wn br 4 _) (fun _ _ h => h)
    obtain ⟨w3, hw3⟩ : ∃ w3, wn.setCell ⟨br, 4, none⟩ (.int .i64 (d : Int)) = w3 := ⟨_, rfl⟩
    rw [hw3] at h3 F3
    have HR3 : Hid (ReAt w3 br gt ct gs gz n gb cb { o with made := o.made + 1, s := { o.s with a := d } } false) := h3
    have hc3 := h3.ctx2 hk hoo.cells hyy hs hz hq
    have HC3 : Hid (RCtx w3 br gt ct gs gz n k s z q) := hc3
    have HF3 : Hid (Fr (fun j => j = br) w w3) := F3
    have HD : Hid (o.s.a - q = d ∧ d < 65536) := ⟨hd, by omega⟩
    obtain ⟨p0, p1, p2, p3, p4, p5, p6, p7, p8, pf⟩ := cell_of_nine h3.blk
    have pz := hc3.cz
    have pf4 := pf 4
    have pf5 := pf 5
    clear hnx Fn hoo hhalf halt hq0 hbit hm hkk hpos hs hz hq hz2 hyy hd h3 F3 hc3 gf pf
    have kc : IntKind.i64.wrap ((o.s.c : Int) + (q : Int)) = (o.s.c : Int) + (q : Int) := by
      have hr := HO.out.1.ok.cw.room
      have hq9 := HO.out.2.2.2.1
      have hp := Nat.two_pow_pos o.s.t
      have : o.s.c + o.s.a ≤ 268435456 := Nat.le_trans (Nat.le_mul_of_pos_right _ hp) hr
      rw [IntKind.wrap_i64]; omega
    by_cases hbz : bit = z
    · have hz1 : ((bit : Int) == (z : Int)) = true := by simp [hbz]
      have hz2 : decide (bit = z) = true := decide_eq_true hbz
      have Hbz : Hid (bit = z) := hbz
      clear hbz
      by_cases hbig : 32768 ≤ d
      · have hd1 : decide ((32768 : Int) ≤ (d : Int)) = true := decide_eq_true (by omega)
        have Hbig : Hid (32768 ≤ d) := hbig
        clear hbig
        have h4 := HR3.out.setC (o.s.c + q)
        rw [show ((o.s.c + q : Nat) : Int) = (o.s.c : Int) + (q : Int) by push_cast; rfl] at h4
        have F4 : Fr (fun j => j = br) w (w3.setCell ⟨br, 5, none⟩ (.int .i64 ((o.s.c : Int) + (q : Int)))) := Fr.trans HF3.out (Fr.set1 w3 br 5 _) (fun _ _ h => h)
        obtain ⟨w4, hw4⟩ : ∃ w4, w3.setCell ⟨br, 5, none⟩ (.int .i64 ((o.s.c : Int) + (q : Int))) = w4 := ⟨_, rfl⟩
        rw [hw4] at h4 F4
        have HR4 : Hid (ReAt w4 br gt ct gs gz n gb cb { s := { o.s with a := d, c := o.s.c + q }, x := o.x, made := o.made + 1 } false) := h4
        have HF4 : Hid (Fr (fun j => j = br) w w4) := F4
        clear h4 F4
        go_wp2_with fail
        go_ret
        refine ⟨rfl, gb, ⟨cb, ?_⟩, RStep.of_fr (HF4.out.mono (fun _ _ e => Or.inl e))⟩
        rw [putP_stay o i bit k y s z q d HY.out.2.1 HS.out.2.2.2.2.2 HS.out.1 HS.out.2.1 HS.out.2.2.1 HD.out.1 ⟨Hbz.out, Hbig.out⟩]
        exact HR4.out
      · have hd1 : decide ((32768 : Int) ≤ (d : Int)) = false := decide_eq_false (by omega)
        have Hbig : Hid (¬ 32768 ≤ d) := hbig
        have HNB : Hid ((codeS o.s q true).a < 32768) := codeS_a HO.out.1.ok HO.out.2.2.2.1.1 HO.out.2.2.2.1.2 true (by rw [HD.out.1]; exact fun h => hbig h.2)
        have HPt : Hid (putP o i bit = { s := renewP 16 (codeS o.s q true), x := o.x.set k (learnP true y), made := o.made + 1 }) := by
          have := putP_turn o i bit k y s z q d HY.out.2.1 HS.out.2.2.2.2.2 HS.out.1 HS.out.2.1 HS.out.2.2.1 HD.out.1 (fun h => hbig h.2)
          rw [hz2] at this
          exact this
        have HLen : Hid ((codeS o.s q true).b.length ≤ 900000000) := by
          have h9 := HO.out.1.len
          have h8 := HO.out.1.made
          have e : (codeS o.s q true).b = o.s.b := by unfold codeS; split <;> rfl
          show (codeS o.s q true).b.length ≤ 900000000
          rw [e]; omega
        clear hbig
        by_cases hdq : d < q
        · have hd2 : decide (d < q) = true := decide_eq_true hdq
          have HCS : Hid (codeS o.s q true = { o.s with a := q }) := by
            show codeS o.s q true = _
            unfold codeS; rw [HD.out.1, hd2, if_pos rfl]
          clear hdq
          have h4 := HR3.out.setA q
          have HR4 : Hid (ReAt (w3.setCell ⟨br, 4, none⟩ (.int .i64 (q : Int))) br gt ct gs gz n gb cb { o with made := o.made + 1, s := codeS o.s q true } false) := by
            rw [HCS.out]; exact h4
          have HF4 : Hid (Fr (fun j => j = br) w (w3.setCell ⟨br, 4, none⟩ (.int .i64 (q : Int)))) := Fr.trans HF3.out (Fr.set1 w3 br 4 _) (fun _ _ h => h)
          obtain ⟨w4, hw4⟩ : ∃ w4, w3.setCell ⟨br, 4, none⟩ (.int .i64 (q : Int)) = w4 := ⟨_, rfl⟩
          rw [hw4] at HR4 HF4
          clear h4
          have hc4 := HR4.out.ctx2 HO.out.2.2.2.2.2.2.1 HO.out.1.cells HS.out.2.2.2.2.2 HS.out.1 HS.out.2.1 HS.out.2.2.1
          go_wp2_with fail
          refine (rlikely_at _ br gt ct gs n k s (rM s) HO.out.2.2.2.2.2.2.1 HO.out.2.2.2.2.2.2.2.1 HS.out.2.2.2.1 hc4.e0 hc4.e1 hc4.cs hc4.cm hc4.fs).mono ?_
          rintro e w5 ⟨rfl, hw5⟩
          obtain ⟨hs, hz, hq, hs47', hz2', hyy⟩ := HS.out
          have hv2 : (2 * rM s + z) / 2 = rM s := by omega
          have hv1 : (2 * rM s + z) % 2 = z := by omega
          have hsS := HR4.out.setS k (2 * rM s + z) (by
            rw [hv1, ← hz, ← hyy, List.getD_eq_getElem?_getD, List.getD_eq_getElem?_getD, List.getElem?_map]
            cases o.x[k]? <;> rfl)
          rw [hv2] at hsS
          have hlp : learnP true y = 2 * rM s + z := by unfold learnP; rw [if_pos rfl, hs, hz]
          have HR5 : Hid (ReAt w5 br gt ct gs gz n gb cb { s := codeS o.s q true, x := o.x.set k (learnP true y), made := o.made + 1 } false) := by
            rw [hlp, hw5]
            exact hsS.kept (Fr.drew (Fr.refl (fun _ => False) _)) (fun h => h) (fun h => h) (fun h => h) (fun h => h) (fun h => h)
          have HF5 : Hid (Fr (fun j => j = br ∨ j = gs ∨ j = gz ∨ j = gb) w w5) := by
            rw [hw5]
            exact (Fr.trans (HF4.out.mono (fun _ _ e => Or.inl e)) (Fr.set1 _ gs k _) (fun _ _ e => Or.inr (Or.inl e))).drew
          clear hc4 hw5 hs hz hq hs47' hz2' hyy hv2 hv1 hsS hlp
          go_wp2_with fail
          refine (rrenew_any _ br gt ct gs gz n gb cb _ false HR5.out (codeS_cw HO.out.1.ok HO.out.2.2.2.1.1 HO.out.2.2.2.1.2 true) HNB.out HLen.out).mono ?_
          rintro e w6 ⟨rfl, gb', cb', hr6, hst6⟩
          have HZ : Hid (ReAt w6 br gt ct gs gz n gb' cb' (putP o i bit) false ∧ RStep br gs gz gb gb' w w6) := by
            refine ⟨?_, RStep.trans (RStep.of_fr HF5.out) hst6⟩
            rw [HPt.out]
            exact hr6
          clear hr6 hst6
          go_wp2_with fail
          go_ret
          exact ⟨rfl, gb', cb', HZ.out.1, HZ.out.2⟩
        · have hd2 : decide (d < q) = false := decide_eq_false hdq
          have HCS : Hid (codeS o.s q true = { o.s with a := d, c := o.s.c + q }) := by
            show codeS o.s q true = _
            unfold codeS; rw [HD.out.1, hd2, if_neg (by decide)]
          clear hdq
          have h4 := HR3.out.setC (o.s.c + q)
          rw [show ((o.s.c + q : Nat) : Int) = (o.s.c : Int) + (q : Int) by push_cast; rfl] at h4
          have HR4 : Hid (ReAt (w3.setCell ⟨br, 5, none⟩ (.int .i64 ((o.s.c : Int) + (q : Int)))) br gt ct gs gz n gb cb { o with made := o.made + 1, s := codeS o.s q true } false) := by
            rw [HCS.out]; exact h4
          have HF4 : Hid (Fr (fun j => j = br) w (w3.setCell ⟨br, 5, none⟩ (.int .i64 ((o.s.c : Int) + (q : Int))))) := Fr.trans HF3.out (Fr.set1 w3 br 5 _) (fun _ _ h => h)
          obtain ⟨w4, hw4⟩ : ∃ w4, w3.setCell ⟨br, 5, none⟩ (.int .i64 ((o.s.c : Int) + (q : Int))) = w4 := ⟨_, rfl⟩
          rw [hw4] at HR4 HF4
          clear h4
          have hc4 := HR4.out.ctx2 HO.out.2.2.2.2.2.2.1 HO.out.1.cells HS.out.2.2.2.2.2 HS.out.1 HS.out.2.1 HS.out.2.2.1
          go_wp2_with fail
          refine (rlikely_at _ br gt ct gs n k s (rM s) HO.out.2.2.2.2.2.2.1 HO.out.2.2.2.2.2.2.2.1 HS.out.2.2.2.1 hc4.e0 hc4.e1 hc4.cs hc4.cm hc4.fs).mono ?_
          rintro e w5 ⟨rfl, hw5⟩
          obtain ⟨hs, hz, hq, hs47', hz2', hyy⟩ := HS.out
          have hv2 : (2 * rM s + z) / 2 = rM s := by omega
          have hv1 : (2 * rM s + z) % 2 = z := by omega
          have hsS := HR4.out.setS k (2 * rM s + z) (by
            rw [hv1, ← hz, ← hyy, List.getD_eq_getElem?_getD, List.getD_eq_getElem?_getD, List.getElem?_map]
            cases o.x[k]? <;> rfl)
          rw [hv2] at hsS
          have hlp : learnP true y = 2 * rM s + z := by unfold learnP; rw [if_pos rfl, hs, hz]
          have HR5 : Hid (ReAt w5 br gt ct gs gz n gb cb { s := codeS o.s q true, x := o.x.set k (learnP true y), made := o.made + 1 } false) := by
            rw [hlp, hw5]
            exact hsS.kept (Fr.drew (Fr.refl (fun _ => False) _)) (fun h => h) (fun h => h) (fun h => h) (fun h => h) (fun h => h)
          have HF5 : Hid (Fr (fun j => j = br ∨ j = gs ∨ j = gz ∨ j = gb) w w5) := by
            rw [hw5]
            exact (Fr.trans (HF4.out.mono (fun _ _ e => Or.inl e)) (Fr.set1 _ gs k _) (fun _ _ e => Or.inr (Or.inl e))).drew
          clear hc4 hw5 hs hz hq hs47' hz2' hyy hv2 hv1 hsS hlp
          go_wp2_with fail
          refine (rrenew_any _ br gt ct gs gz n gb cb _ false HR5.out (codeS_cw HO.out.1.ok HO.out.2.2.2.1.1 HO.out.2.2.2.1.2 true) HNB.out HLen.out).mono ?_
          rintro e w6 ⟨rfl, gb', cb', hr6, hst6⟩
          have HZ : Hid (ReAt w6 br gt ct gs gz n gb' cb' (putP o i bit) false ∧ RStep br gs gz gb gb' w w6) := by
            refine ⟨?_, RStep.trans (RStep.of_fr HF5.out) hst6⟩
            rw [HPt.out]
            exact hr6
          clear hr6 hst6
          go_wp2_with fail
          go_ret
          exact ⟨rfl, gb', cb', HZ.out.1, HZ.out.2⟩
    · have hz1 : ((bit : Int) == (z : Int)) = false := by simp; omega
      have hz2 : decide (bit = z) = false := decide_eq_false hbz
      have HNB : Hid ((codeS o.s q false).a < 32768) := codeS_a HO.out.1.ok HO.out.2.2.2.1.1 HO.out.2.2.2.1.2 false (fun h => absurd h.1 (by decide))
      have HPt : Hid (putP o i bit = { s := renewP 16 (codeS o.s q false), x := o.x.set k (learnP false y), made := o.made + 1 }) := by
        have := putP_turn o i bit k y s z q d HY.out.2.1 HS.out.2.2.2.2.2 HS.out.1 HS.out.2.1 HS.out.2.2.1 HD.out.1 (fun h => hbz h.1)
        rw [hz2] at this
        exact this
      have HLen : Hid ((codeS o.s q false).b.length ≤ 900000000) := by
        have h9 := HO.out.1.len
        have h8 := HO.out.1.made
        have e : (codeS o.s q false).b = o.s.b := by unfold codeS; split <;> rfl
        show (codeS o.s q false).b.length ≤ 900000000
        rw [e]; omega
      clear hbz
      by_cases hdq : d < q
      · have hd2 : decide (d < q) = true := decide_eq_true hdq
        have HCS : Hid (codeS o.s q false = { o.s with a := d, c := o.s.c + q }) := by
          show codeS o.s q false = _
          unfold codeS; rw [HD.out.1, hd2, if_neg (by decide)]
        clear hdq
        have h4 := HR3.out.setC (o.s.c + q)
        rw [show ((o.s.c + q : Nat) : Int) = (o.s.c : Int) + (q : Int) by push_cast; rfl] at h4
        have HR4 : Hid (ReAt (w3.setCell ⟨br, 5, none⟩ (.int .i64 ((o.s.c : Int) + (q : Int)))) br gt ct gs gz n gb cb { o with made := o.made + 1, s := codeS o.s q false } false) := by
          rw [HCS.out]; exact h4
        have HF4 : Hid (Fr (fun j => j = br) w (w3.setCell ⟨br, 5, none⟩ (.int .i64 ((o.s.c : Int) + (q : Int))))) := Fr.trans HF3.out (Fr.set1 w3 br 5 _) (fun _ _ h => h)
        obtain ⟨w4, hw4⟩ : ∃ w4, w3.setCell ⟨br, 5, none⟩ (.int .i64 ((o.s.c : Int) + (q : Int))) = w4 := ⟨_, rfl⟩
        rw [hw4] at HR4 HF4
        clear h4
        have hc4 := HR4.out.ctx2 HO.out.2.2.2.2.2.2.1 HO.out.1.cells HS.out.2.2.2.2.2 HS.out.1 HS.out.2.1 HS.out.2.2.1
        cases hrs : rS s
        · skip
          go_wp2_with fail
          refine (rother_keep _ br gt ct gs gz n k s q (rM s) (rL s) z HO.out.2.2.2.2.2.2.1 HO.out.2.2.2.2.2.2.2.1 ⟨HS.out.2.2.2.1, HS.out.2.2.1.symm, rfl, rfl, hrs.symm⟩ HS.out.2.2.2.2.1 HR4.out.ne hc4.e0 hc4.e1 hc4.e2 hc4.cs hc4.cz hc4.cq hc4.cm hc4.cl (by rw [hc4.cb, hrs]) hc4.fs hc4.fz HR4.out.nes.2.1 HR4.out.nes.2.2.1 HR4.out.nes.2.2.2.2.2.1).mono ?_
          rintro e w5 ⟨rfl, f5⟩
          obtain ⟨hs, hz, hq, hs47', hz2', hyy⟩ := HS.out
          have hv2 : (2 * rL s + z) / 2 = rL s := by omega
          have hv1 : (2 * rL s + z) % 2 = z := by omega
          have hsS := HR4.out.setS k (2 * rL s + z) (by
            rw [hv1, ← hz, ← hyy, List.getD_eq_getElem?_getD, List.getD_eq_getElem?_getD, List.getElem?_map]
            cases o.x[k]? <;> rfl)
          rw [hv2] at hsS
          have hlp : learnP false y = 2 * rL s + z := by unfold learnP; rw [if_neg (by decide), hs, hz, hrs]; rfl
          have HR5 : Hid (ReAt w5 br gt ct gs gz n gb cb { s := codeS o.s q false, x := o.x.set k (learnP false y), made := o.made + 1 } false) := by
            rw [hlp]
            exact hsS.kept f5 (fun h => h) (fun h => h) (fun h => h) (fun h => h) (fun h => h)
          have HF5 : Hid (Fr (fun j => j = br ∨ j = gs ∨ j = gz ∨ j = gb) w w5) := by
            exact Fr.trans (Fr.trans (HF4.out.mono (fun _ _ e => Or.inl e)) (Fr.set1 _ gs k _) (fun _ _ e => Or.inr (Or.inl e))) f5 (fun _ _ h => h.elim)
          clear hc4 f5 hs hz hq hs47' hz2' hyy hv2 hv1 hsS hlp hrs
          go_wp2_with fail
          refine (rrenew_any _ br gt ct gs gz n gb cb _ false HR5.out (codeS_cw HO.out.1.ok HO.out.2.2.2.1.1 HO.out.2.2.2.1.2 false) HNB.out HLen.out).mono ?_
          rintro e w6 ⟨rfl, gb', cb', hr6, hst6⟩
          have HZ : Hid (ReAt w6 br gt ct gs gz n gb' cb' (putP o i bit) false ∧ RStep br gs gz gb gb' w w6) := by
            refine ⟨?_, RStep.trans (RStep.of_fr HF5.out) hst6⟩
            rw [HPt.out]
            exact hr6
          clear hr6 hst6
          go_wp2_with fail
          go_ret
          exact ⟨rfl, gb', cb', HZ.out.1, HZ.out.2⟩
        · skip
          go_wp2_with fail
          refine (rother_turn _ br gt ct gs gz n k s q (rM s) (rL s) z HO.out.2.2.2.2.2.2.1 HO.out.2.2.2.2.2.2.2.1 ⟨HS.out.2.2.2.1, HS.out.2.2.1.symm, rfl, rfl, hrs.symm⟩ HS.out.2.2.2.2.1 HR4.out.ne hc4.e0 hc4.e1 hc4.e2 hc4.cs hc4.cz hc4.cq hc4.cm hc4.cl (by rw [hc4.cb, hrs]) hc4.fs hc4.fz HR4.out.nes.2.1 HR4.out.nes.2.2.1 HR4.out.nes.2.2.2.2.2.1).mono ?_
          rintro e w5 ⟨rfl, f5⟩
          obtain ⟨hs, hz, hq, hs47', hz2', hyy⟩ := HS.out
          have hv2 : (2 * rL s + (1 - z)) / 2 = rL s := by omega
          have hv1 : (2 * rL s + (1 - z)) % 2 = 1 - z := by omega
          have hsS := HR4.out.setX k (2 * rL s + (1 - z))
          rw [hv2, hv1] at hsS
          have hlp : learnP false y = 2 * rL s + (1 - z) := by unfold learnP; rw [if_neg (by decide), hs, hz, hrs]; rfl
          have HR5 : Hid (ReAt w5 br gt ct gs gz n gb cb { s := codeS o.s q false, x := o.x.set k (learnP false y), made := o.made + 1 } false) := by
            rw [hlp]
            exact hsS.kept f5 (fun h => h) (fun h => h) (fun h => h) (fun h => h) (fun h => h)
          have HF5 : Hid (Fr (fun j => j = br ∨ j = gs ∨ j = gz ∨ j = gb) w w5) := by
            exact Fr.trans (Fr.trans (Fr.trans (HF4.out.mono (fun _ _ e => Or.inl e)) (Fr.set1 _ gz k _) (fun _ _ e => Or.inr (Or.inr (Or.inl e)))) (Fr.set1 _ gs k _) (fun _ _ e => Or.inr (Or.inl e))) f5 (fun _ _ h => h.elim)
          clear hc4 f5 hs hz hq hs47' hz2' hyy hv2 hv1 hsS hlp hrs
          go_wp2_with fail
          refine (rrenew_any _ br gt ct gs gz n gb cb _ false HR5.out (codeS_cw HO.out.1.ok HO.out.2.2.2.1.1 HO.out.2.2.2.1.2 false) HNB.out HLen.out).mono ?_
          rintro e w6 ⟨rfl, gb', cb', hr6, hst6⟩
          have HZ : Hid (ReAt w6 br gt ct gs gz n gb' cb' (putP o i bit) false ∧ RStep br gs gz gb gb' w w6) := by
            refine ⟨?_, RStep.trans (RStep.of_fr HF5.out) hst6⟩
            rw [HPt.out]
            exact hr6
          clear hr6 hst6
          go_wp2_with fail
          go_ret
          exact ⟨rfl, gb', cb', HZ.out.1, HZ.out.2⟩
      · have hd2 : decide (d < q) = false := decide_eq_false hdq
        have HCS : Hid (codeS o.s q false = { o.s with a := q }) := by
          show codeS o.s q false = _
          unfold codeS; rw [HD.out.1, hd2, if_pos rfl]
        clear hdq
        have h4 := HR3.out.setA q
        have HR4 : Hid (ReAt (w3.setCell ⟨br, 4, none⟩ (.int .i64 (q : Int))) br gt ct gs gz n gb cb { o with made := o.made + 1, s := codeS o.s q false } false) := by
          rw [HCS.out]; exact h4
        have HF4 : Hid (Fr (fun j => j = br) w (w3.setCell ⟨br, 4, none⟩ (.int .i64 (q : Int)))) := Fr.trans HF3.out (Fr.set1 w3 br 4 _) (fun _ _ h => h)
        obtain ⟨w4, hw4⟩ : ∃ w4, w3.setCell ⟨br, 4, none⟩ (.int .i64 (q : Int)) = w4 := ⟨_, rfl⟩
        rw [hw4] at HR4 HF4
        clear h4
        have hc4 := HR4.out.ctx2 HO.out.2.2.2.2.2.2.1 HO.out.1.cells HS.out.2.2.2.2.2 HS.out.1 HS.out.2.1 HS.out.2.2.1
        cases hrs : rS s
        · skip
          go_wp2_with fail
          refine (rother_keep _ br gt ct gs gz n k s q (rM s) (rL s) z HO.out.2.2.2.2.2.2.1 HO.out.2.2.2.2.2.2.2.1 ⟨HS.out.2.2.2.1, HS.out.2.2.1.symm, rfl, rfl, hrs.symm⟩ HS.out.2.2.2.2.1 HR4.out.ne hc4.e0 hc4.e1 hc4.e2 hc4.cs hc4.cz hc4.cq hc4.cm hc4.cl (by rw [hc4.cb, hrs]) hc4.fs hc4.fz HR4.out.nes.2.1 HR4.out.nes.2.2.1 HR4.out.nes.2.2.2.2.2.1).mono ?_
          rintro e w5 ⟨rfl, f5⟩
          obtain ⟨hs, hz, hq, hs47', hz2', hyy⟩ := HS.out
          have hv2 : (2 * rL s + z) / 2 = rL s := by omega
          have hv1 : (2 * rL s + z) % 2 = z := by omega
          have hsS := HR4.out.setS k (2 * rL s + z) (by
            rw [hv1, ← hz, ← hyy, List.getD_eq_getElem?_getD, List.getD_eq_getElem?_getD, List.getElem?_map]
            cases o.x[k]? <;> rfl)
          rw [hv2] at hsS
          have hlp : learnP false y = 2 * rL s + z := by unfold learnP; rw [if_neg (by decide), hs, hz, hrs]; rfl
          have HR5 : Hid (ReAt w5 br gt ct gs gz n gb cb { s := codeS o.s q false, x := o.x.set k (learnP false y), made := o.made + 1 } false) := by
            rw [hlp]
            exact hsS.kept f5 (fun h => h) (fun h => h) (fun h => h) (fun h => h) (fun h => h)
          have HF5 : Hid (Fr (fun j => j = br ∨ j = gs ∨ j = gz ∨ j = gb) w w5) := by
            exact Fr.trans (Fr.trans (HF4.out.mono (fun _ _ e => Or.inl e)) (Fr.set1 _ gs k _) (fun _ _ e => Or.inr (Or.inl e))) f5 (fun _ _ h => h.elim)
          clear hc4 f5 hs hz hq hs47' hz2' hyy hv2 hv1 hsS hlp hrs
          go_wp2_with fail
          refine (rrenew_any _ br gt ct gs gz n gb cb _ false HR5.out (codeS_cw HO.out.1.ok HO.out.2.2.2.1.1 HO.out.2.2.2.1.2 false) HNB.out HLen.out).mono ?_
          rintro e w6 ⟨rfl, gb', cb', hr6, hst6⟩
          have HZ : Hid (ReAt w6 br gt ct gs gz n gb' cb' (putP o i bit) false ∧ RStep br gs gz gb gb' w w6) := by
            refine ⟨?_, RStep.trans (RStep.of_fr HF5.out) hst6⟩
            rw [HPt.out]
            exact hr6
          clear hr6 hst6
          go_wp2_with fail
          go_ret
          exact ⟨rfl, gb', cb', HZ.out.1, HZ.out.2⟩
        · skip
          go_wp2_with fail
          refine (rother_turn _ br gt ct gs gz n k s q (rM s) (rL s) z HO.out.2.2.2.2.2.2.1 HO.out.2.2.2.2.2.2.2.1 ⟨HS.out.2.2.2.1, HS.out.2.2.1.symm, rfl, rfl, hrs.symm⟩ HS.out.2.2.2.2.1 HR4.out.ne hc4.e0 hc4.e1 hc4.e2 hc4.cs hc4.cz hc4.cq hc4.cm hc4.cl (by rw [hc4.cb, hrs]) hc4.fs hc4.fz HR4.out.nes.2.1 HR4.out.nes.2.2.1 HR4.out.nes.2.2.2.2.2.1).mono ?_
          rintro e w5 ⟨rfl, f5⟩
          obtain ⟨hs, hz, hq, hs47', hz2', hyy⟩ := HS.out
          have hv2 : (2 * rL s + (1 - z)) / 2 = rL s := by omega
          have hv1 : (2 * rL s + (1 - z)) % 2 = 1 - z := by omega
          have hsS := HR4.out.setX k (2 * rL s + (1 - z))
          rw [hv2, hv1] at hsS
          have hlp : learnP false y = 2 * rL s + (1 - z) := by unfold learnP; rw [if_neg (by decide), hs, hz, hrs]; rfl
          have HR5 : Hid (ReAt w5 br gt ct gs gz n gb cb { s := codeS o.s q false, x := o.x.set k (learnP false y), made := o.made + 1 } false) := by
            rw [hlp]
            exact hsS.kept f5 (fun h => h) (fun h => h) (fun h => h) (fun h => h) (fun h => h)
          have HF5 : Hid (Fr (fun j => j = br ∨ j = gs ∨ j = gz ∨ j = gb) w w5) := by
            exact Fr.trans (Fr.trans (Fr.trans (HF4.out.mono (fun _ _ e => Or.inl e)) (Fr.set1 _ gz k _) (fun _ _ e => Or.inr (Or.inr (Or.inl e)))) (Fr.set1 _ gs k _) (fun _ _ e => Or.inr (Or.inl e))) f5 (fun _ _ h => h.elim)
          clear hc4 f5 hs hz hq hs47' hz2' hyy hv2 hv1 hsS hlp hrs
          go_wp2_with fail
          refine (rrenew_any _ br gt ct gs gz n gb cb _ false HR5.out (codeS_cw HO.out.1.ok HO.out.2.2.2.1.1 HO.out.2.2.2.1.2 false) HNB.out HLen.out).mono ?_
          rintro e w6 ⟨rfl, gb', cb', hr6, hst6⟩
          have HZ : Hid (ReAt w6 br gt ct gs gz n gb' cb' (putP o i bit) false ∧ RStep br gs gz gb gb' w w6) := by
            refine ⟨?_, RStep.trans (RStep.of_fr HF5.out) hst6⟩
            rw [HPt.out]
            exact hr6
          clear hr6 hst6
          go_wp2_with fail
          go_ret
          exact ⟨rfl, gb', cb', HZ.out.1, HZ.out.2⟩
  · have hb0 : ((bit : Int) != 0) = true := by simp [hb]
    have hb1 : ((bit : Int) != 1) = false := by simp [hb]
    have Hb : Hid (bit = 1) := hb
    clear hb hbit
    go_enter Tryd.func46, Tryd.ntmps46
    go_wp2_with fail
    refine (rindex_at _ br gs n i HI.out HO.out.2.2.2.2.2.2.2.2 HO.out.2.2.2.2.2.2.2.1 f1).mono ?_
    rintro e w2 ⟨he, hw2⟩
    obtain rfl := hw2.symm
    rw [HK.out] at he
    subst he
    have hk := HO.out.2.2.2.2.2.2.1
    have hs47 : s < 47 := HS.out.2.2.2.1
    go_wp2_with fail
    go_quiet (fail)
    have hnx := H1.out.kept (Fr.drewN (Fr.refl (fun _ => False) w1) nq) (fun h => h) (fun h => h) (fun h => h) (fun h => h) (fun h => h)
    have Fn : Fr (fun j => j = br) w (w1.drewN nq) := F1.out.drewN nq
    generalize w1.drewN nq = wn at *
    obtain ⟨hoo, hhalf, halt, hq0, hbit, hm, hkk, hlim, hpos⟩ := HO.out
    obtain ⟨hs, hz, hq, _, hz2, hyy⟩ := HS.out
    obtain ⟨d, hd⟩ : ∃ d, o.s.a - q = d := ⟨_, rfl⟩
    have k2 : IntKind.i64.wrap ((o.s.a : Int) - (q : Int)) = (d : Int) := by rw [IntKind.wrap_i64]; omega
    obtain ⟨g0, g1, g2, g3, g4, g5, g6, g7, g8, gf⟩ := cell_of_nine hnx.blk
    have gf4 := gf 4
    have h3 := hnx.setA d
    have F3 : Fr (fun j => j = br) w (wn.setCell ⟨br, 4, none⟩ (.int .i64 (d : Int))) := Fr.trans Fn (Fr.set1 wn br 4 _) (fun _ _ h => h)
    obtain ⟨w3, hw3⟩ : ∃ w3, wn.setCell ⟨br, 4, none⟩ (.int .i64 (d : Int)) = w3 := ⟨_, rfl⟩
    rw [hw3] at h3 F3
    have HR3 : Hid (ReAt w3 br gt ct gs gz n gb cb { o with made := o.made + 1, s := { o.s with a := d } } false) := h3
    have hc3 := h3.ctx2 hk hoo.cells hyy hs hz hq
    have HC3 : Hid (RCtx w3 br gt ct gs gz n k s z q) := hc3
    have HF3 : Hid (Fr (fun j => j = br) w w3) := F3
    have HD : Hid (o.s.a - q = d ∧ d < 65536) := ⟨hd, by omega⟩
    obtain ⟨p0, p1, p2, p3, p4, p5, p6, p7, p8, pf⟩ := cell_of_nine h3.blk
    have pz := hc3.cz
    have pf4 := pf 4
    have pf5 := pf 5
    clear hnx Fn hoo hhalf halt hq0 hbit hm hkk hpos hs hz hq hz2 hyy hd h3 F3 hc3 gf pf
    have kc : IntKind.i64.wrap ((o.s.c : Int) + (q : Int)) = (o.s.c : Int) + (q : Int) := by
      have hr := HO.out.1.ok.cw.room
      have hq9 := HO.out.2.2.2.1
      have hp := Nat.two_pow_pos o.s.t
      have : o.s.c + o.s.a ≤ 268435456 := Nat.le_trans (Nat.le_mul_of_pos_right _ hp) hr
      rw [IntKind.wrap_i64]; omega
    by_cases hbz : bit = z
    · have hz1 : ((bit : Int) == (z : Int)) = true := by simp [hbz]
      have hz2 : decide (bit = z) = true := decide_eq_true hbz
      have Hbz : Hid (bit = z) := hbz
      clear hbz
      by_cases hbig : 32768 ≤ d
      · have hd1 : decide ((32768 : Int) ≤ (d : Int)) = true := decide_eq_true (by omega)
        have Hbig : Hid (32768 ≤ d) := hbig
        clear hbig
        have h4 := HR3.out.setC (o.s.c + q)
        rw [show ((o.s.c + q : Nat) : Int) = (o.s.c : Int) + (q : Int) by push_cast; rfl] at h4
        have F4 : Fr (fun j => j = br) w (w3.setCell ⟨br, 5, none⟩ (.int .i64 ((o.s.c : Int) + (q : Int)))) := Fr.trans HF3.out (Fr.set1 w3 br 5 _) (fun _ _ h => h)
        obtain ⟨w4, hw4⟩ : ∃ w4, w3.setCell ⟨br, 5, none⟩ (.int .i64 ((o.s.c : Int) + (q : Int))) = w4 := ⟨_, rfl⟩
        rw [hw4] at h4 F4
        have HR4 : Hid (ReAt w4 br gt ct gs gz n gb cb { s := { o.s with a := d, c := o.s.c + q }, x := o.x, made := o.made + 1 } false) := h4
        have HF4 : Hid (Fr (fun j => j = br) w w4) := F4
        clear h4 F4
        go_wp2_with fail
        go_ret
        refine ⟨rfl, gb, ⟨cb, ?_⟩, RStep.of_fr (HF4.out.mono (fun _ _ e => Or.inl e))⟩
        rw [putP_stay o i bit k y s z q d HY.out.2.1 HS.out.2.2.2.2.2 HS.out.1 HS.out.2.1 HS.out.2.2.1 HD.out.1 ⟨Hbz.out, Hbig.out⟩]
        exact HR4.out
      · have hd1 : decide ((32768 : Int) ≤ (d : Int)) = false := decide_eq_false (by omega)
        have Hbig : Hid (¬ 32768 ≤ d) := hbig
        have HNB : Hid ((codeS o.s q true).a < 32768) := codeS_a HO.out.1.ok HO.out.2.2.2.1.1 HO.out.2.2.2.1.2 true (by rw [HD.out.1]; exact fun h => hbig h.2)
        have HPt : Hid (putP o i bit = { s := renewP 16 (codeS o.s q true), x := o.x.set k (learnP true y), made := o.made + 1 }) := by
          have := putP_turn o i bit k y s z q d HY.out.2.1 HS.out.2.2.2.2.2 HS.out.1 HS.out.2.1 HS.out.2.2.1 HD.out.1 (fun h => hbig h.2)
          rw [hz2] at this
          exact this
        have HLen : Hid ((codeS o.s q true).b.length ≤ 900000000) := by
          have h9 := HO.out.1.len
          have h8 := HO.out.1.made
          have e : (codeS o.s q true).b = o.s.b := by unfold codeS; split <;> rfl
          show (codeS o.s q true).b.length ≤ 900000000
          rw [e]; omega
        clear hbig
        by_cases hdq : d < q
        · have hd2 : decide (d < q) = true := decide_eq_true hdq
          have HCS : Hid (codeS o.s q true = { o.s with a := q }) := by
            show codeS o.s q true = _
            unfold codeS; rw [HD.out.1, hd2, if_pos rfl]
          clear hdq
          have h4 := HR3.out.setA q
          have HR4 : Hid (ReAt (w3.setCell ⟨br, 4, none⟩ (.int .i64 (q : Int))) br gt ct gs gz n gb cb { o with made := o.made + 1, s := codeS o.s q true } false) := by
            rw [HCS.out]; exact h4
          have HF4 : Hid (Fr (fun j => j = br) w (w3.setCell ⟨br, 4, none⟩ (.int .i64 (q : Int)))) := Fr.trans HF3.out (Fr.set1 w3 br 4 _) (fun _ _ h => h)
          obtain ⟨w4, hw4⟩ : ∃ w4, w3.setCell ⟨br, 4, none⟩ (.int .i64 (q : Int)) = w4 := ⟨_, rfl⟩
          rw [hw4] at HR4 HF4
          clear h4
          have hc4 := HR4.out.ctx2 HO.out.2.2.2.2.2.2.1 HO.out.1.cells HS.out.2.2.2.2.2 HS.out.1 HS.out.2.1 HS.out.2.2.1
          go_wp2_with fail
          refine (rlikely_at _ br gt ct gs n k s (rM s) HO.out.2.2.2.2.2.2.1 HO.out.2.2.2.2.2.2.2.1 HS.out.2.2.2.1 hc4.e0 hc4.e1 hc4.cs hc4.cm hc4.fs).mono ?_
          rintro e w5 ⟨rfl, hw5⟩
          obtain ⟨hs, hz, hq, hs47', hz2', hyy⟩ := HS.out
          have hv2 : (2 * rM s + z) / 2 = rM s := by omega
          have hv1 : (2 * rM s + z) % 2 = z := by omega
          have hsS := HR4.out.setS k (2 * rM s + z) (by
            rw [hv1, ← hz, ← hyy, List.getD_eq_getElem?_getD, List.getD_eq_getElem?_getD, List.getElem?_map]
            cases o.x[k]? <;> rfl)
          rw [hv2] at hsS
          have hlp : learnP true y = 2 * rM s + z := by unfold learnP; rw [if_pos rfl, hs, hz]
          have HR5 : Hid (ReAt w5 br gt ct gs gz n gb cb { s := codeS o.s q true, x := o.x.set k (learnP true y), made := o.made + 1 } false) := by
            rw [hlp, hw5]
            exact hsS.kept (Fr.drew (Fr.refl (fun _ => False) _)) (fun h => h) (fun h => h) (fun h => h) (fun h => h) (fun h => h)
          have HF5 : Hid (Fr (fun j => j = br ∨ j = gs ∨ j = gz ∨ j = gb) w w5) := by
            rw [hw5]
            exact (Fr.trans (HF4.out.mono (fun _ _ e => Or.inl e)) (Fr.set1 _ gs k _) (fun _ _ e => Or.inr (Or.inl e))).drew
          clear hc4 hw5 hs hz hq hs47' hz2' hyy hv2 hv1 hsS hlp
          go_wp2_with fail
          refine (rrenew_any _ br gt ct gs gz n gb cb _ false HR5.out (codeS_cw HO.out.1.ok HO.out.2.2.2.1.1 HO.out.2.2.2.1.2 true) HNB.out HLen.out).mono ?_
          rintro e w6 ⟨rfl, gb', cb', hr6, hst6⟩
          have HZ : Hid (ReAt w6 br gt ct gs gz n gb' cb' (putP o i bit) false ∧ RStep br gs gz gb gb' w w6) := by
            refine ⟨?_, RStep.trans (RStep.of_fr HF5.out) hst6⟩
            rw [HPt.out]
            exact hr6
          clear hr6 hst6
          go_wp2_with fail
          go_ret
          exact ⟨rfl, gb', cb', HZ.out.1, HZ.out.2⟩
        · have hd2 : decide (d < q) = false := decide_eq_false hdq
          have HCS : Hid (codeS o.s q true = { o.s with a := d, c := o.s.c + q }) := by
            show codeS o.s q true = _
            unfold codeS; rw [HD.out.1, hd2, if_neg (by decide)]
          clear hdq
          have h4 := HR3.out.setC (o.s.c + q)
          rw [show ((o.s.c + q : Nat) : Int) = (o.s.c : Int) + (q : Int) by push_cast; rfl] at h4
          have HR4 : Hid (ReAt (w3.setCell ⟨br, 5, none⟩ (.int .i64 ((o.s.c : Int) + (q : Int)))) br gt ct gs gz n gb cb { o with made := o.made + 1, s := codeS o.s q true } false) := by
            rw [HCS.out]; exact h4
          have HF4 : Hid (Fr (fun j => j = br) w (w3.setCell ⟨br, 5, none⟩ (.int .i64 ((o.s.c : Int) + (q : Int))))) := Fr.trans HF3.out (Fr.set1 w3 br 5 _) (fun _ _ h => h)
          obtain ⟨w4, hw4⟩ : ∃ w4, w3.setCell ⟨br, 5, none⟩ (.int .i64 ((o.s.c : Int) + (q : Int))) = w4 := ⟨_, rfl⟩
          rw [hw4] at HR4 HF4
          clear h4
          have hc4 := HR4.out.ctx2 HO.out.2.2.2.2.2.2.1 HO.out.1.cells HS.out.2.2.2.2.2 HS.out.1 HS.out.2.1 HS.out.2.2.1
          go_wp2_with fail
          refine (rlikely_at _ br gt ct gs n k s (rM s) HO.out.2.2.2.2.2.2.1 HO.out.2.2.2.2.2.2.2.1 HS.out.2.2.2.1 hc4.e0 hc4.e1 hc4.cs hc4.cm hc4.fs).mono ?_
          rintro e w5 ⟨rfl, hw5⟩
          obtain ⟨hs, hz, hq, hs47', hz2', hyy⟩ := HS.out
          have hv2 : (2 * rM s + z) / 2 = rM s := by omega
          have hv1 : (2 * rM s + z) % 2 = z := by omega
          have hsS := HR4.out.setS k (2 * rM s + z) (by
            rw [hv1, ← hz, ← hyy, List.getD_eq_getElem?_getD, List.getD_eq_getElem?_getD, List.getElem?_map]
            cases o.x[k]? <;> rfl)
          rw [hv2] at hsS
          have hlp : learnP true y = 2 * rM s + z := by unfold learnP; rw [if_pos rfl, hs, hz]
          have HR5 : Hid (ReAt w5 br gt ct gs gz n gb cb { s := codeS o.s q true, x := o.x.set k (learnP true y), made := o.made + 1 } false) := by
            rw [hlp, hw5]
            exact hsS.kept (Fr.drew (Fr.refl (fun _ => False) _)) (fun h => h) (fun h => h) (fun h => h) (fun h => h) (fun h => h)
          have HF5 : Hid (Fr (fun j => j = br ∨ j = gs ∨ j = gz ∨ j = gb) w w5) := by
            rw [hw5]
            exact (Fr.trans (HF4.out.mono (fun _ _ e => Or.inl e)) (Fr.set1 _ gs k _) (fun _ _ e => Or.inr (Or.inl e))).drew
          clear hc4 hw5 hs hz hq hs47' hz2' hyy hv2 hv1 hsS hlp
          go_wp2_with fail
          refine (rrenew_any _ br gt ct gs gz n gb cb _ false HR5.out (codeS_cw HO.out.1.ok HO.out.2.2.2.1.1 HO.out.2.2.2.1.2 true) HNB.out HLen.out).mono ?_
          rintro e w6 ⟨rfl, gb', cb', hr6, hst6⟩
          have HZ : Hid (ReAt w6 br gt ct gs gz n gb' cb' (putP o i bit) false ∧ RStep br gs gz gb gb' w w6) := by
            refine ⟨?_, RStep.trans (RStep.of_fr HF5.out) hst6⟩
            rw [HPt.out]
            exact hr6
          clear hr6 hst6
          go_wp2_with fail
          go_ret
          exact ⟨rfl, gb', cb', HZ.out.1, HZ.out.2⟩
    · have hz1 : ((bit : Int) == (z : Int)) = false := by simp; omega
      have hz2 : decide (bit = z) = false := decide_eq_false hbz
      have HNB : Hid ((codeS o.s q false).a < 32768) := codeS_a HO.out.1.ok HO.out.2.2.2.1.1 HO.out.2.2.2.1.2 false (fun h => absurd h.1 (by decide))
      have HPt : Hid (putP o i bit = { s := renewP 16 (codeS o.s q false), x := o.x.set k (learnP false y), made := o.made + 1 }) := by
        have := putP_turn o i bit k y s z q d HY.out.2.1 HS.out.2.2.2.2.2 HS.out.1 HS.out.2.1 HS.out.2.2.1 HD.out.1 (fun h => hbz h.1)
        rw [hz2] at this
        exact this
      have HLen : Hid ((codeS o.s q false).b.length ≤ 900000000) := by
        have h9 := HO.out.1.len
        have h8 := HO.out.1.made
        have e : (codeS o.s q false).b = o.s.b := by unfold codeS; split <;> rfl
        show (codeS o.s q false).b.length ≤ 900000000
        rw [e]; omega
      clear hbz
      by_cases hdq : d < q
      · have hd2 : decide (d < q) = true := decide_eq_true hdq
        have HCS : Hid (codeS o.s q false = { o.s with a := d, c := o.s.c + q }) := by
          show codeS o.s q false = _
          unfold codeS; rw [HD.out.1, hd2, if_neg (by decide)]
        clear hdq
        have h4 := HR3.out.setC (o.s.c + q)
        rw [show ((o.s.c + q : Nat) : Int) = (o.s.c : Int) + (q : Int) by push_cast; rfl] at h4
        have HR4 : Hid (ReAt (w3.setCell ⟨br, 5, none⟩ (.int .i64 ((o.s.c : Int) + (q : Int)))) br gt ct gs gz n gb cb { o with made := o.made + 1, s := codeS o.s q false } false) := by
          rw [HCS.out]; exact h4
        have HF4 : Hid (Fr (fun j => j = br) w (w3.setCell ⟨br, 5, none⟩ (.int .i64 ((o.s.c : Int) + (q : Int))))) := Fr.trans HF3.out (Fr.set1 w3 br 5 _) (fun _ _ h => h)
        obtain ⟨w4, hw4⟩ : ∃ w4, w3.setCell ⟨br, 5, none⟩ (.int .i64 ((o.s.c : Int) + (q : Int))) = w4 := ⟨_, rfl⟩
        rw [hw4] at HR4 HF4
        clear h4
        have hc4 := HR4.out.ctx2 HO.out.2.2.2.2.2.2.1 HO.out.1.cells HS.out.2.2.2.2.2 HS.out.1 HS.out.2.1 HS.out.2.2.1
        cases hrs : rS s
        · skip
          go_wp2_with fail
          refine (rother_keep _ br gt ct gs gz n k s q (rM s) (rL s) z HO.out.2.2.2.2.2.2.1 HO.out.2.2.2.2.2.2.2.1 ⟨HS.out.2.2.2.1, HS.out.2.2.1.symm, rfl, rfl, hrs.symm⟩ HS.out.2.2.2.2.1 HR4.out.ne hc4.e0 hc4.e1 hc4.e2 hc4.cs hc4.cz hc4.cq hc4.cm hc4.cl (by rw [hc4.cb, hrs]) hc4.fs hc4.fz HR4.out.nes.2.1 HR4.out.nes.2.2.1 HR4.out.nes.2.2.2.2.2.1).mono ?_
          rintro e w5 ⟨rfl, f5⟩
          obtain ⟨hs, hz, hq, hs47', hz2', hyy⟩ := HS.out
          have hv2 : (2 * rL s + z) / 2 = rL s := by omega
          have hv1 : (2 * rL s + z) % 2 = z := by omega
          have hsS := HR4.out.setS k (2 * rL s + z) (by
            rw [hv1, ← hz, ← hyy, List.getD_eq_getElem?_getD, List.getD_eq_getElem?_getD, List.getElem?_map]
            cases o.x[k]? <;> rfl)
          rw [hv2] at hsS
          have hlp : learnP false y = 2 * rL s + z := by unfold learnP; rw [if_neg (by decide), hs, hz, hrs]; rfl
          have HR5 : Hid (ReAt w5 br gt ct gs gz n gb cb { s := codeS o.s q false, x := o.x.set k (learnP false y), made := o.made + 1 } false) := by
            rw [hlp]
            exact hsS.kept f5 (fun h => h) (fun h => h) (fun h => h) (fun h => h) (fun h => h)
          have HF5 : Hid (Fr (fun j => j = br ∨ j = gs ∨ j = gz ∨ j = gb) w w5) := by
            exact Fr.trans (Fr.trans (HF4.out.mono (fun _ _ e => Or.inl e)) (Fr.set1 _ gs k _) (fun _ _ e => Or.inr (Or.inl e))) f5 (fun _ _ h => h.elim)
          clear hc4 f5 hs hz hq hs47' hz2' hyy hv2 hv1 hsS hlp hrs
          go_wp2_with fail
          refine (rrenew_any _ br gt ct gs gz n gb cb _ false HR5.out (codeS_cw HO.out.1.ok HO.out.2.2.2.1.1 HO.out.2.2.2.1.2 false) HNB.out HLen.out).mono ?_
          rintro e w6 ⟨rfl, gb', cb', hr6, hst6⟩
          have HZ : Hid (ReAt w6 br gt ct gs gz n gb' cb' (putP o i bit) false ∧ RStep br gs gz gb gb' w w6) := by
            refine ⟨?_, RStep.trans (RStep.of_fr HF5.out) hst6⟩
            rw [HPt.out]
            exact hr6
          clear hr6 hst6
          go_wp2_with fail
          go_ret
          exact ⟨rfl, gb', cb', HZ.out.1, HZ.out.2⟩
        · skip
          go_wp2_with fail
          refine (rother_turn _ br gt ct gs gz n k s q (rM s) (rL s) z HO.out.2.2.2.2.2.2.1 HO.out.2.2.2.2.2.2.2.1 ⟨HS.out.2.2.2.1, HS.out.2.2.1.symm, rfl, rfl, hrs.symm⟩ HS.out.2.2.2.2.1 HR4.out.ne hc4.e0 hc4.e1 hc4.e2 hc4.cs hc4.cz hc4.cq hc4.cm hc4.cl (by rw [hc4.cb, hrs]) hc4.fs hc4.fz HR4.out.nes.2.1 HR4.out.nes.2.2.1 HR4.out.nes.2.2.2.2.2.1).mono ?_
          rintro e w5 ⟨rfl, f5⟩
          obtain ⟨hs, hz, hq, hs47', hz2', hyy⟩ := HS.out
          have hv2 : (2 * rL s + (1 - z)) / 2 = rL s := by omega
          have hv1 : (2 * rL s + (1 - z)) % 2 = 1 - z := by omega
          have hsS := HR4.out.setX k (2 * rL s + (1 - z))
          rw [hv2, hv1] at hsS
          have hlp : learnP false y = 2 * rL s + (1 - z) := by unfold learnP; rw [if_neg (by decide), hs, hz, hrs]; rfl
          have HR5 : Hid (ReAt w5 br gt ct gs gz n gb cb { s := codeS o.s q false, x := o.x.set k (learnP false y), made := o.made + 1 } false) := by
            rw [hlp]
            exact hsS.kept f5 (fun h => h) (fun h => h) (fun h => h) (fun h => h) (fun h => h)
          have HF5 : Hid (Fr (fun j => j = br ∨ j = gs ∨ j = gz ∨ j = gb) w w5) := by
            exact Fr.trans (Fr.trans (Fr.trans (HF4.out.mono (fun _ _ e => Or.inl e)) (Fr.set1 _ gz k _) (fun _ _ e => Or.inr (Or.inr (Or.inl e)))) (Fr.set1 _ gs k _) (fun _ _ e => Or.inr (Or.inl e))) f5 (fun _ _ h => h.elim)
          clear hc4 f5 hs hz hq hs47' hz2' hyy hv2 hv1 hsS hlp hrs
          go_wp2_with fail
          refine (rrenew_any _ br gt ct gs gz n gb cb _ false HR5.out (codeS_cw HO.out.1.ok HO.out.2.2.2.1.1 HO.out.2.2.2.1.2 false) HNB.out HLen.out).mono ?_
          rintro e w6 ⟨rfl, gb', cb', hr6, hst6⟩
          have HZ : Hid (ReAt w6 br gt ct gs gz n gb' cb' (putP o i bit) false ∧ RStep br gs gz gb gb' w w6) := by
            refine ⟨?_, RStep.trans (RStep.of_fr HF5.out) hst6⟩
            rw [HPt.out]
            exact hr6
          clear hr6 hst6
          go_wp2_with fail
          go_ret
          exact ⟨rfl, gb', cb', HZ.out.1, HZ.out.2⟩
      · have hd2 : decide (d < q) = false := decide_eq_false hdq
        have HCS : Hid (codeS o.s q false = { o.s with a := q }) := by
          show codeS o.s q false = _
          unfold codeS; rw [HD.out.1, hd2, if_pos rfl]
        clear hdq
        have h4 := HR3.out.setA q
        have HR4 : Hid (ReAt (w3.setCell ⟨br, 4, none⟩ (.int .i64 (q : Int))) br gt ct gs gz n gb cb { o with made := o.made + 1, s := codeS o.s q false } false) := by
          rw [HCS.out]; exact h4
        have HF4 : Hid (Fr (fun j => j = br) w (w3.setCell ⟨br, 4, none⟩ (.int .i64 (q : Int)))) := Fr.trans HF3.out (Fr.set1 w3 br 4 _) (fun _ _ h => h)
        obtain ⟨w4, hw4⟩ : ∃ w4, w3.setCell ⟨br, 4, none⟩ (.int .i64 (q : Int)) = w4 := ⟨_, rfl⟩
        rw [hw4] at HR4 HF4
        clear h4
        have hc4 := HR4.out.ctx2 HO.out.2.2.2.2.2.2.1 HO.out.1.cells HS.out.2.2.2.2.2 HS.out.1 HS.out.2.1 HS.out.2.2.1
        cases hrs : rS s
        · skip
          go_wp2_with fail
          refine (rother_keep _ br gt ct gs gz n k s q (rM s) (rL s) z HO.out.2.2.2.2.2.2.1 HO.out.2.2.2.2.2.2.2.1 ⟨HS.out.2.2.2.1, HS.out.2.2.1.symm, rfl, rfl, hrs.symm⟩ HS.out.2.2.2.2.1 HR4.out.ne hc4.e0 hc4.e1 hc4.e2 hc4.cs hc4.cz hc4.cq hc4.cm hc4.cl (by rw [hc4.cb, hrs]) hc4.fs hc4.fz HR4.out.nes.2.1 HR4.out.nes.2.2.1 HR4.out.nes.2.2.2.2.2.1).mono ?_
          rintro e w5 ⟨rfl, f5⟩
          obtain ⟨hs, hz, hq, hs47', hz2', hyy⟩ := HS.out
          have hv2 : (2 * rL s + z) / 2 = rL s := by omega
          have hv1 : (2 * rL s + z) % 2 = z := by omega
          have hsS := HR4.out.setS k (2 * rL s + z) (by
            rw [hv1, ← hz, ← hyy, List.getD_eq_getElem?_getD, List.getD_eq_getElem?_getD, List.getElem?_map]
            cases o.x[k]? <;> rfl)
          rw [hv2] at hsS
          have hlp : learnP false y = 2 * rL s + z := by unfold learnP; rw [if_neg (by decide), hs, hz, hrs]; rfl
          have HR5 : Hid (ReAt w5 br gt ct gs gz n gb cb { s := codeS o.s q false, x := o.x.set k (learnP false y), made := o.made + 1 } false) := by
            rw [hlp]
            exact hsS.kept f5 (fun h => h) (fun h => h) (fun h => h) (fun h => h) (fun h => h)
          have HF5 : Hid (Fr (fun j => j = br ∨ j = gs ∨ j = gz ∨ j = gb) w w5) := by
            exact Fr.trans (Fr.trans (HF4.out.mono (fun _ _ e => Or.inl e)) (Fr.set1 _ gs k _) (fun _ _ e => Or.inr (Or.inl e))) f5 (fun _ _ h => h.elim)
          clear hc4 f5 hs hz hq hs47' hz2' hyy hv2 hv1 hsS hlp hrs
          go_wp2_with fail
          refine (rrenew_any _ br gt ct gs gz n gb cb _ false HR5.out (codeS_cw HO.out.1.ok HO.out.2.2.2.1.1 HO.out.2.2.2.1.2 false) HNB.out HLen.out).mono ?_
          rintro e w6 ⟨rfl, gb', cb', hr6, hst6⟩
          have HZ : Hid (ReAt w6 br gt ct gs gz n gb' cb' (putP o i bit) false ∧ RStep br gs gz gb gb' w w6) := by
            refine ⟨?_, RStep.trans (RStep.of_fr HF5.out) hst6⟩
            rw [HPt.out]
            exact hr6
          clear hr6 hst6
          go_wp2_with fail
          go_ret
          exact ⟨rfl, gb', cb', HZ.out.1, HZ.out.2⟩
        · skip
          go_wp2_with fail
          refine (rother_turn _ br gt ct gs gz n k s q (rM s) (rL s) z HO.out.2.2.2.2.2.2.1 HO.out.2.2.2.2.2.2.2.1 ⟨HS.out.2.2.2.1, HS.out.2.2.1.symm, rfl, rfl, hrs.symm⟩ HS.out.2.2.2.2.1 HR4.out.ne hc4.e0 hc4.e1 hc4.e2 hc4.cs hc4.cz hc4.cq hc4.cm hc4.cl (by rw [hc4.cb, hrs]) hc4.fs hc4.fz HR4.out.nes.2.1 HR4.out.nes.2.2.1 HR4.out.nes.2.2.2.2.2.1).mono ?_
          rintro e w5 ⟨rfl, f5⟩
          obtain ⟨hs, hz, hq, hs47', hz2', hyy⟩ := HS.out
          have hv2 : (2 * rL s + (1 - z)) / 2 = rL s := by omega
          have hv1 : (2 * rL s + (1 - z)) % 2 = 1 - z := by omega
          have hsS := HR4.out.setX k (2 * rL s + (1 - z))
          rw [hv2, hv1] at hsS
          have hlp : learnP false y = 2 * rL s + (1 - z) := by unfold learnP; rw [if_neg (by decide), hs, hz, hrs]; rfl
          have HR5 : Hid (ReAt w5 br gt ct gs gz n gb cb { s := codeS o.s q false, x := o.x.set k (learnP false y), made := o.made + 1 } false) := by
            rw [hlp]
            exact hsS.kept f5 (fun h => h) (fun h => h) (fun h => h) (fun h => h) (fun h => h)
          have HF5 : Hid (Fr (fun j => j = br ∨ j = gs ∨ j = gz ∨ j = gb) w w5) := by
            exact Fr.trans (Fr.trans (Fr.trans (HF4.out.mono (fun _ _ e => Or.inl e)) (Fr.set1 _ gz k _) (fun _ _ e => Or.inr (Or.inr (Or.inl e)))) (Fr.set1 _ gs k _) (fun _ _ e => Or.inr (Or.inl e))) f5 (fun _ _ h => h.elim)
          clear hc4 f5 hs hz hq hs47' hz2' hyy hv2 hv1 hsS hlp hrs
          go_wp2_with fail
          refine (rrenew_any _ br gt ct gs gz n gb cb _ false HR5.out (codeS_cw HO.out.1.ok HO.out.2.2.2.1.1 HO.out.2.2.2.1.2 false) HNB.out HLen.out).mono ?_
          rintro e w6 ⟨rfl, gb', cb', hr6, hst6⟩
          have HZ : Hid (ReAt w6 br gt ct gs gz n gb' cb' (putP o i bit) false ∧ RStep br gs gz gb gb' w w6) := by
            refine ⟨?_, RStep.trans (RStep.of_fr HF5.out) hst6⟩
            rw [HPt.out]
            exact hr6
          clear hr6 hst6
          go_wp2_with fail
          go_ret
          exact ⟨rfl, gb', cb', HZ.out.1, HZ.out.2⟩

end Go.Proofs.YtllhekkclhcdbaaDoor

