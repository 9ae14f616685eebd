/- A decision is decoded. -/
import Derived.Test.YtkggdnkmaldmlabKDren
namespace Go.Proofs.Ytkggdnkmaldmlab
open Go.RowKit

/-- A context of a decoder learns. -/
theorem learn_de (w : World) (bd gc cc : Nat) (vb : Value) (B : List Nat) (o : De) (k : Nat) (b : Bool) (h : DeAt w bd gc cc vb B o) (hk : k < o.x.length) (hx : o.x.getD k 0 < 94) :
    Calls Try.prog 81 #[.pointer (some ⟨gc, k, none⟩), .bool b] w fun e w' => e = .returned (.tuple #[]) ∧ DeAt w' bd gc cc vb B { o with x := o.x.set k (learnP b (o.x.getD k 0)) } ∧ DStep bd gc w w' := by
  refine (learn_at w gc k _ (h.ctx hk) (h.xs.frozenAt k) hx b).mono ?_
  rintro e w' ⟨rfl, w1, f1, f2⟩
  have h2 := ((h.keptAll f1).setX k (learnP b (o.x.getD k 0))).keptAll f2
  refine ⟨rfl, h2, DStep.lift f1 (DStep.trans ?_ (f2.mono (fun _ _ hh => hh.elim)))⟩
  exact (Fr.set1 w1 gc k _).mono (fun i _ e => Or.inr e)

set_option maxRecDepth 100000 in
set_option maxHeartbeats 2000000 in
theorem dec_stay (w : World) (bd gc cc : Nat) (vb : Value) (B : List Nat) (o : De) (k : Nat) (h : DeAt w bd gc cc vb B o) (_ : ∀ y ∈ B, y < 256) (hok : Dok B o.s) (hk : k < o.x.length) (hx : o.x.getD k 0 < 94) (h0 : ¬ (o.s.c / 65536 < rQ (o.x.getD k 0 / 2))) (h1 : 32768 ≤ o.s.a - rQ (o.x.getD k 0 / 2)) :
    Calls Try.prog 88 #[.pointer (some ⟨bd, 0, none⟩), .pointer (some ⟨gc, k, none⟩)] w fun e w' => e = .returned (.int .u8 (decBit o.s (o.x.getD k 0) : Nat)) ∧ DeAt w' bd gc cc vb B { o with s := decP B o.s (o.x.getD k 0), x := o.x.set k (decX o.s (o.x.getD k 0)) } ∧ DStep bd gc w w' := by
  obtain ⟨e0, e1, e2, e3, e4, e5, e6, ef⟩ := cell_of_seven h.blk
  have ec := h.ctx hk
  have hbl := h.lt
  have HO : Hid (DeAt w bd gc cc vb B o) := h
  have HK : Hid (Dok B o.s) := hok
  skip
  have HKL : Hid (k < o.x.length) := hk
  have hh := hok.half
  have ha := hok.dw.alt
  have hct := hok.dw.clt
  clear h hok hk
  obtain ⟨y, HY⟩ : ∃ y, Hid (y = o.x.getD k 0) := ⟨_, rfl⟩
  rw [← HY.out] at ec hx ⊢
  have HYL : Hid (y < 94) := hx
  obtain ⟨q, m, l, t, HR⟩ : ∃ q m l t, Hid (IsRow (y / 2) q m l t) := ⟨_, _, _, _, IsRow.of hx⟩
  obtain ⟨hq1, hq2, hm, hl⟩ := HR.out.bd
  obtain ⟨z, HZ⟩ : ∃ z, Hid (z = y % 2) := ⟨_, rfl⟩
  have hz : z < 2 := by rw [HZ.out]; omega
  rw [← HY.out, ← HR.out.hq] at h0 h1
  have HQ : Hid (q = rQ (y / 2)) := HR.out.hq
  obtain ⟨s, x, made⟩ := o
  obtain ⟨a, c, tt, p⟩ := s
  simp only [] at *
  obtain ⟨d, hd⟩ : ∃ d, d = a - q := ⟨_, rfl⟩
  have hdi : (a : Int) - (q : Int) = (d : Int) := by omega
  obtain ⟨cq, HCQ⟩ : ∃ cq, Hid (cq = c - q * 65536) := ⟨_, rfl⟩
  rw [← hd] at h1
  have HD : Hid (d = a - q) := hd
  clear hd
  have hfld : ∀ w, (Instr.field 127 (.agg #[.int .u32 (q : Int), .int .u8 (m : Int), .int .u8 (l : Int), .bool t]) 0).run Try.prog w = .ok (.int .u32 (q : Int)) w := fun _ => by kernel_rfl
  have hlow : decide ((c : Int) / 65536 < (q : Int)) = false := decide_eq_false (by omega)
  have hcq : (c : Int) - (q : Int) * 65536 = (cq : Int) := by rw [HCQ.out]; omega
  have hg2 : (decide (32768 ≤ (d : Int))) = true := decide_eq_true (by omega)
  have HST : Hid (decStay { a := a, c := c, t := tt, p := p } (rQ (y / 2))) := by rw [← HQ.out]; exact ⟨h0, by rw [← HD.out]; exact h1⟩
  have HS : Hid (decS { a := a, c := c, t := tt, p := p } (rQ (y / 2)) = { a := d, c := cq, t := tt, p := p }) := by
    show decS _ _ = _
    rw [← HQ.out, decS, if_neg h0, HD.out, HCQ.out]
  clear h1
  go_enter Try.func88, Try.ntmps88
  go_wp2_with (first | (go_at_call 79; refine (row_at _ gc k y ec HYL.out q m l _ HR.out).mono ?_; rintro e w1 ⟨rfl, hf1⟩; have hc1 := hf1.cell ec (fun h => h); have hlt1 : bd < w1.heap.size := Nat.lt_of_lt_of_le hbl hf1.size; have p2 := hf1.cell e2 (fun h => h); have p3 := hf1.cell e3 (fun h => h); have p2f := hf1.frozen hbl (ef 2) (fun h => h); have p3f := hf1.frozen hbl (ef 3) (fun h => h); have HF1 : Hid (Fr (fun _ => False) w w1) := hf1; clear hf1) | (go_at_call 80; refine (likelier_at _ gc k y hc1 HYL.out).mono ?_; rw [← HZ.out]; rintro e w2 ⟨rfl, rfl⟩))
  go_ret
  have hc2 := ((HO.out.keptAll HF1.out).setA d).setC cq
  have ep : decP B { a := a, c := c, t := tt, p := p } y = { a := d, c := cq, t := tt, p := p } := by rw [decP, if_pos HST.out, HS.out]
  have ex : decX { a := a, c := c, t := tt, p := p } y = y := by rw [decX, if_pos HST.out]
  have eb : decBit { a := a, c := c, t := tt, p := p } y = z := by rw [decBit, if_pos HST.out, HZ.out]
  refine ⟨by rw [eb]; rfl, ?_, DStep.lift HF1.out (Fr.setCell (Fr.setCell (Fr.refl _ _) (fun _ => Or.inl rfl) _) (fun _ => Or.inl rfl) _)⟩
  rw [ep, ex, HY.out, set_self]
  exact hc2


set_option maxRecDepth 100000 in
set_option maxHeartbeats 2000000 in
theorem dec_ll (w : World) (bd gc cc : Nat) (vb : Value) (B : List Nat) (o : De) (k : Nat) (h : DeAt w bd gc cc vb B o) (hB : ∀ y ∈ B, y < 256) (hok : Dok B o.s) (hk : k < o.x.length) (hx : o.x.getD k 0 < 94) (h0 : (o.s.c / 65536 < rQ (o.x.getD k 0 / 2))) (h1 : (o.s.a - rQ (o.x.getD k 0 / 2) < rQ (o.x.getD k 0 / 2))) :
    Calls Try.prog 88 #[.pointer (some ⟨bd, 0, none⟩), .pointer (some ⟨gc, k, none⟩)] w fun e w' => e = .returned (.int .u8 (decBit o.s (o.x.getD k 0) : Nat)) ∧ DeAt w' bd gc cc vb B { o with s := decP B o.s (o.x.getD k 0), x := o.x.set k (decX o.s (o.x.getD k 0)) } ∧ DStep bd gc w w' := by
  obtain ⟨e0, e1, e2, e3, e4, e5, e6, ef⟩ := cell_of_seven h.blk
  have ec := h.ctx hk
  have hbl := h.lt
  have HO : Hid (DeAt w bd gc cc vb B o) := h
  have HK : Hid (Dok B o.s) := hok
  have HB : Hid (∀ y ∈ B, y < 256) := hB
  have HKL : Hid (k < o.x.length) := hk
  have hh := hok.half
  have ha := hok.dw.alt
  have hct := hok.dw.clt
  clear h hok hB hk
  obtain ⟨y, HY⟩ : ∃ y, Hid (y = o.x.getD k 0) := ⟨_, rfl⟩
  rw [← HY.out] at ec hx ⊢
  have HYL : Hid (y < 94) := hx
  obtain ⟨q, m, l, t, HR⟩ : ∃ q m l t, Hid (IsRow (y / 2) q m l t) := ⟨_, _, _, _, IsRow.of hx⟩
  obtain ⟨hq1, hq2, hm, hl⟩ := HR.out.bd
  obtain ⟨z, HZ⟩ : ∃ z, Hid (z = y % 2) := ⟨_, rfl⟩
  have hz : z < 2 := by rw [HZ.out]; omega
  rw [← HY.out, ← HR.out.hq] at h0 h1
  have HQ : Hid (q = rQ (y / 2)) := HR.out.hq
  obtain ⟨s, x, made⟩ := o
  obtain ⟨a, c, tt, p⟩ := s
  simp only [] at *
  obtain ⟨d, hd⟩ : ∃ d, d = a - q := ⟨_, rfl⟩
  have hdi : (a : Int) - (q : Int) = (d : Int) := by omega
  obtain ⟨cq, HCQ⟩ : ∃ cq, Hid (cq = c - q * 65536) := ⟨_, rfl⟩
  rw [← hd] at h1
  have HD : Hid (d = a - q) := hd
  clear hd
  have hfld : ∀ w, (Instr.field 127 (.agg #[.int .u32 (q : Int), .int .u8 (m : Int), .int .u8 (l : Int), .bool t]) 0).run Try.prog w = .ok (.int .u32 (q : Int)) w := fun _ => by kernel_rfl
  have hlow : decide ((c : Int) / 65536 < (q : Int)) = true := decide_eq_true (by omega)
  have hlt2 : (decide ((d : Int) < (q : Int))) = true := decide_eq_true (by omega)
  have HNS : Hid (¬ decStay { a := a, c := c, t := tt, p := p } (rQ (y / 2))) := by
    show ¬ _
    rw [← HQ.out]; exact fun hh => hh.1 h0
  have HS : Hid (decS { a := a, c := c, t := tt, p := p } (rQ (y / 2)) = { a := q, c := c, t := tt, p := p }) := by
    show decS _ _ = _
    rw [← HQ.out, decS, if_pos h0]
  have HL : Hid (decLikely { a := a, c := c, t := tt, p := p } (rQ (y / 2)) = true) := by
    show (decide (c / 65536 < rQ (y / 2)) == decide (a - rQ (y / 2) < rQ (y / 2))) = true
    rw [← HQ.out, ← HD.out, decide_eq_true h0, decide_eq_true h1]; rfl
  have HDW : Hid (Dw B { a := q, c := c, t := tt, p := p }) := by
    show Dw _ _
    rw [← HS.out]; exact decS_dw HK.out (by rw [← HQ.out]; exact hq1) (by rw [← HQ.out]; exact hq2)
  have HLT : Hid (({ a := q, c := c, t := tt, p := p } : Ds).a < 32768) := by
    show _ < _
    rw [← HS.out]; exact decS_a HK.out (by rw [← HQ.out]; exact hq2) HNS.out
  go_enter Try.func88, Try.ntmps88
  go_wp2_with (first | (go_at_call 79; refine (row_at _ gc k y ec HYL.out q m l _ HR.out).mono ?_; rintro e w1 ⟨rfl, hf1⟩; have hc1 := hf1.cell ec (fun h => h); have hlt1 : bd < w1.heap.size := Nat.lt_of_lt_of_le hbl hf1.size; have p2 := hf1.cell e2 (fun h => h); have p3 := hf1.cell e3 (fun h => h); have p2f := hf1.frozen hbl (ef 2) (fun h => h); have p3f := hf1.frozen hbl (ef 3) (fun h => h); have HF1 : Hid (Fr (fun _ => False) w w1) := hf1; have HC1 : Hid (DeAt ((w1.setCell ⟨bd, 2, none⟩ (.int .u32 (d : Int))).setCell ⟨bd, 2, none⟩ (.int .u32 (q : Int))) bd gc cc vb B { s := { a := q, c := c, t := tt, p := p }, x := x, made := made }) := (((HO.out.keptAll hf1).setA d).setA q); clear hf1) | (go_at_call 80; refine (likelier_at _ gc k y hc1 HYL.out).mono ?_; rw [← HZ.out]; rintro e w2 ⟨rfl, rfl⟩))
  refine (learn_de _ bd gc cc vb B _ k true HC1.out HKL.out (by simp only []; rw [← HY.out]; exact HYL.out)).mono ?_
  rintro e w3 ⟨rfl, hc3, hs3⟩
  have HC3 : Hid (DeAt w3 bd gc cc vb B { s := { a := q, c := c, t := tt, p := p }, x := x.set k (learnP true (x.getD k 0)), made := made }) := hc3
  have HS3 : Hid (DStep bd gc ((w2.setCell ⟨bd, 2, none⟩ (.int .u32 (d : Int))).setCell ⟨bd, 2, none⟩ (.int .u32 (q : Int))) w3) := hs3
  clear hc3 hs3
  go_wp2_with fail
  refine (renewD_any _ bd gc cc vb B _ HC3.out HB.out HDW.out HLT.out).mono ?_
  rintro e w4 ⟨rfl, hc4, hs4⟩
  go_wp2_with fail
  go_ret
  have ep : decP B { a := a, c := c, t := tt, p := p } y = renewD B 16 { a := q, c := c, t := tt, p := p } := by rw [decP, if_neg HNS.out, HS.out]
  have ex : decX { a := a, c := c, t := tt, p := p } y = learnP true y := by rw [decX, if_neg HNS.out, HL.out]
  have eb : decBit { a := a, c := c, t := tt, p := p } y = z := by rw [decBit, if_neg HNS.out, HL.out, ← HZ.out]; rfl
  refine ⟨by rw [eb]; rfl, ?_, DStep.lift HF1.out (DStep.trans (Fr.setCell (Fr.setCell (Fr.refl _ _) (fun _ => Or.inl rfl) _) (fun _ => Or.inl rfl) _) (DStep.trans HS3.out hs4))⟩
  rw [ep, ex, HY.out]
  exact hc4


set_option maxRecDepth 100000 in
set_option maxHeartbeats 2000000 in
theorem dec_lg0 (w : World) (bd gc cc : Nat) (vb : Value) (B : List Nat) (o : De) (k : Nat) (h : DeAt w bd gc cc vb B o) (hB : ∀ y ∈ B, y < 256) (hok : Dok B o.s) (hk : k < o.x.length) (hx : o.x.getD k 0 < 94) (h0 : (o.s.c / 65536 < rQ (o.x.getD k 0 / 2))) (h1 : ¬ (o.s.a - rQ (o.x.getD k 0 / 2) < rQ (o.x.getD k 0 / 2))) (h4 : o.x.getD k 0 % 2 = 0) :
    Calls Try.prog 88 #[.pointer (some ⟨bd, 0, none⟩), .pointer (some ⟨gc, k, none⟩)] w fun e w' => e = .returned (.int .u8 (decBit o.s (o.x.getD k 0) : Nat)) ∧ DeAt w' bd gc cc vb B { o with s := decP B o.s (o.x.getD k 0), x := o.x.set k (decX o.s (o.x.getD k 0)) } ∧ DStep bd gc w w' := by
  obtain ⟨e0, e1, e2, e3, e4, e5, e6, ef⟩ := cell_of_seven h.blk
  have ec := h.ctx hk
  have hbl := h.lt
  have HO : Hid (DeAt w bd gc cc vb B o) := h
  have HK : Hid (Dok B o.s) := hok
  have HB : Hid (∀ y ∈ B, y < 256) := hB
  have HKL : Hid (k < o.x.length) := hk
  have hh := hok.half
  have ha := hok.dw.alt
  have hct := hok.dw.clt
  clear h hok hB hk
  obtain ⟨y, HY⟩ : ∃ y, Hid (y = o.x.getD k 0) := ⟨_, rfl⟩
  rw [← HY.out] at ec hx ⊢
  have HYL : Hid (y < 94) := hx
  obtain ⟨q, m, l, t, HR⟩ : ∃ q m l t, Hid (IsRow (y / 2) q m l t) := ⟨_, _, _, _, IsRow.of hx⟩
  obtain ⟨hq1, hq2, hm, hl⟩ := HR.out.bd
  obtain ⟨z, HZ⟩ : ∃ z, Hid (z = y % 2) := ⟨_, rfl⟩
  have hz : z < 2 := by rw [HZ.out]; omega
  rw [← HY.out, ← HR.out.hq] at h0 h1
  have HQ : Hid (q = rQ (y / 2)) := HR.out.hq
  obtain ⟨s, x, made⟩ := o
  obtain ⟨a, c, tt, p⟩ := s
  simp only [] at *
  obtain ⟨d, hd⟩ : ∃ d, d = a - q := ⟨_, rfl⟩
  have hdi : (a : Int) - (q : Int) = (d : Int) := by omega
  obtain ⟨cq, HCQ⟩ : ∃ cq, Hid (cq = c - q * 65536) := ⟨_, rfl⟩
  rw [← hd] at h1
  have HD : Hid (d = a - q) := hd
  clear hd
  have hfld : ∀ w, (Instr.field 127 (.agg #[.int .u32 (q : Int), .int .u8 (m : Int), .int .u8 (l : Int), .bool t]) 0).run Try.prog w = .ok (.int .u32 (q : Int)) w := fun _ => by kernel_rfl
  have hlow : decide ((c : Int) / 65536 < (q : Int)) = true := decide_eq_true (by omega)
  rw [← HY.out, ← HZ.out] at h4
  subst h4
  have hlt2 : (decide ((d : Int) < (q : Int))) = false := decide_eq_false (by omega)
  have HNS : Hid (¬ decStay { a := a, c := c, t := tt, p := p } (rQ (y / 2))) := by
    show ¬ _
    rw [← HQ.out]; exact fun hh => hh.1 h0
  have HS : Hid (decS { a := a, c := c, t := tt, p := p } (rQ (y / 2)) = { a := q, c := c, t := tt, p := p }) := by
    show decS _ _ = _
    rw [← HQ.out, decS, if_pos h0]
  have HL : Hid (decLikely { a := a, c := c, t := tt, p := p } (rQ (y / 2)) = false) := by
    show (decide (c / 65536 < rQ (y / 2)) == decide (a - rQ (y / 2) < rQ (y / 2))) = false
    rw [← HQ.out, ← HD.out, decide_eq_true h0, decide_eq_false h1]; rfl
  have HDW : Hid (Dw B { a := q, c := c, t := tt, p := p }) := by
    show Dw _ _
    rw [← HS.out]; exact decS_dw HK.out (by rw [← HQ.out]; exact hq1) (by rw [← HQ.out]; exact hq2)
  have HLT : Hid (({ a := q, c := c, t := tt, p := p } : Ds).a < 32768) := by
    show _ < _
    rw [← HS.out]; exact decS_a HK.out (by rw [← HQ.out]; exact hq2) HNS.out
  go_enter Try.func88, Try.ntmps88
  go_wp2_with (first | (go_at_call 79; refine (row_at _ gc k y ec HYL.out q m l _ HR.out).mono ?_; rintro e w1 ⟨rfl, hf1⟩; have hc1 := hf1.cell ec (fun h => h); have hlt1 : bd < w1.heap.size := Nat.lt_of_lt_of_le hbl hf1.size; have p2 := hf1.cell e2 (fun h => h); have p3 := hf1.cell e3 (fun h => h); have p2f := hf1.frozen hbl (ef 2) (fun h => h); have p3f := hf1.frozen hbl (ef 3) (fun h => h); have HF1 : Hid (Fr (fun _ => False) w w1) := hf1; have HC1 : Hid (DeAt ((w1.setCell ⟨bd, 2, none⟩ (.int .u32 (d : Int))).setCell ⟨bd, 2, none⟩ (.int .u32 (q : Int))) bd gc cc vb B { s := { a := q, c := c, t := tt, p := p }, x := x, made := made }) := (((HO.out.keptAll hf1).setA d).setA q); clear hf1) | (go_at_call 80; refine (likelier_at _ gc k y hc1 HYL.out).mono ?_; rw [← HZ.out]; rintro e w2 ⟨rfl, rfl⟩))
  refine (learn_de _ bd gc cc vb B _ k false HC1.out HKL.out (by simp only []; rw [← HY.out]; exact HYL.out)).mono ?_
  rintro e w3 ⟨rfl, hc3, hs3⟩
  have HC3 : Hid (DeAt w3 bd gc cc vb B { s := { a := q, c := c, t := tt, p := p }, x := x.set k (learnP false (x.getD k 0)), made := made }) := hc3
  have HS3 : Hid (DStep bd gc ((w2.setCell ⟨bd, 2, none⟩ (.int .u32 (d : Int))).setCell ⟨bd, 2, none⟩ (.int .u32 (q : Int))) w3) := hs3
  clear hc3 hs3
  go_wp2_with fail
  refine (renewD_any _ bd gc cc vb B _ HC3.out HB.out HDW.out HLT.out).mono ?_
  rintro e w4 ⟨rfl, hc4, hs4⟩
  go_wp2_with fail
  go_ret
  have ep : decP B { a := a, c := c, t := tt, p := p } y = renewD B 16 { a := q, c := c, t := tt, p := p } := by rw [decP, if_neg HNS.out, HS.out]
  have ex : decX { a := a, c := c, t := tt, p := p } y = learnP false y := by rw [decX, if_neg HNS.out, HL.out]
  have eb : decBit { a := a, c := c, t := tt, p := p } y = 1 := by rw [decBit, if_neg HNS.out, HL.out, ← HZ.out]; rfl
  refine ⟨by rw [eb]; rfl, ?_, DStep.lift HF1.out (DStep.trans (Fr.setCell (Fr.setCell (Fr.refl _ _) (fun _ => Or.inl rfl) _) (fun _ => Or.inl rfl) _) (DStep.trans HS3.out hs4))⟩
  rw [ep, ex, HY.out]
  exact hc4


set_option maxRecDepth 100000 in
set_option maxHeartbeats 2000000 in
theorem dec_lg1 (w : World) (bd gc cc : Nat) (vb : Value) (B : List Nat) (o : De) (k : Nat) (h : DeAt w bd gc cc vb B o) (hB : ∀ y ∈ B, y < 256) (hok : Dok B o.s) (hk : k < o.x.length) (hx : o.x.getD k 0 < 94) (h0 : (o.s.c / 65536 < rQ (o.x.getD k 0 / 2))) (h1 : ¬ (o.s.a - rQ (o.x.getD k 0 / 2) < rQ (o.x.getD k 0 / 2))) (h4 : o.x.getD k 0 % 2 = 1) :
    Calls Try.prog 88 #[.pointer (some ⟨bd, 0, none⟩), .pointer (some ⟨gc, k, none⟩)] w fun e w' => e = .returned (.int .u8 (decBit o.s (o.x.getD k 0) : Nat)) ∧ DeAt w' bd gc cc vb B { o with s := decP B o.s (o.x.getD k 0), x := o.x.set k (decX o.s (o.x.getD k 0)) } ∧ DStep bd gc w w' := by
  obtain ⟨e0, e1, e2, e3, e4, e5, e6, ef⟩ := cell_of_seven h.blk
  have ec := h.ctx hk
  have hbl := h.lt
  have HO : Hid (DeAt w bd gc cc vb B o) := h
  have HK : Hid (Dok B o.s) := hok
  have HB : Hid (∀ y ∈ B, y < 256) := hB
  have HKL : Hid (k < o.x.length) := hk
  have hh := hok.half
  have ha := hok.dw.alt
  have hct := hok.dw.clt
  clear h hok hB hk
  obtain ⟨y, HY⟩ : ∃ y, Hid (y = o.x.getD k 0) := ⟨_, rfl⟩
  rw [← HY.out] at ec hx ⊢
  have HYL : Hid (y < 94) := hx
  obtain ⟨q, m, l, t, HR⟩ : ∃ q m l t, Hid (IsRow (y / 2) q m l t) := ⟨_, _, _, _, IsRow.of hx⟩
  obtain ⟨hq1, hq2, hm, hl⟩ := HR.out.bd
  obtain ⟨z, HZ⟩ : ∃ z, Hid (z = y % 2) := ⟨_, rfl⟩
  have hz : z < 2 := by rw [HZ.out]; omega
  rw [← HY.out, ← HR.out.hq] at h0 h1
  have HQ : Hid (q = rQ (y / 2)) := HR.out.hq
  obtain ⟨s, x, made⟩ := o
  obtain ⟨a, c, tt, p⟩ := s
  simp only [] at *
  obtain ⟨d, hd⟩ : ∃ d, d = a - q := ⟨_, rfl⟩
  have hdi : (a : Int) - (q : Int) = (d : Int) := by omega
  obtain ⟨cq, HCQ⟩ : ∃ cq, Hid (cq = c - q * 65536) := ⟨_, rfl⟩
  rw [← hd] at h1
  have HD : Hid (d = a - q) := hd
  clear hd
  have hfld : ∀ w, (Instr.field 127 (.agg #[.int .u32 (q : Int), .int .u8 (m : Int), .int .u8 (l : Int), .bool t]) 0).run Try.prog w = .ok (.int .u32 (q : Int)) w := fun _ => by kernel_rfl
  have hlow : decide ((c : Int) / 65536 < (q : Int)) = true := decide_eq_true (by omega)
  rw [← HY.out, ← HZ.out] at h4
  subst h4
  have hlt2 : (decide ((d : Int) < (q : Int))) = false := decide_eq_false (by omega)
  have HNS : Hid (¬ decStay { a := a, c := c, t := tt, p := p } (rQ (y / 2))) := by
    show ¬ _
    rw [← HQ.out]; exact fun hh => hh.1 h0
  have HS : Hid (decS { a := a, c := c, t := tt, p := p } (rQ (y / 2)) = { a := q, c := c, t := tt, p := p }) := by
    show decS _ _ = _
    rw [← HQ.out, decS, if_pos h0]
  have HL : Hid (decLikely { a := a, c := c, t := tt, p := p } (rQ (y / 2)) = false) := by
    show (decide (c / 65536 < rQ (y / 2)) == decide (a - rQ (y / 2) < rQ (y / 2))) = false
    rw [← HQ.out, ← HD.out, decide_eq_true h0, decide_eq_false h1]; rfl
  have HDW : Hid (Dw B { a := q, c := c, t := tt, p := p }) := by
    show Dw _ _
    rw [← HS.out]; exact decS_dw HK.out (by rw [← HQ.out]; exact hq1) (by rw [← HQ.out]; exact hq2)
  have HLT : Hid (({ a := q, c := c, t := tt, p := p } : Ds).a < 32768) := by
    show _ < _
    rw [← HS.out]; exact decS_a HK.out (by rw [← HQ.out]; exact hq2) HNS.out
  go_enter Try.func88, Try.ntmps88
  go_wp2_with (first | (go_at_call 79; refine (row_at _ gc k y ec HYL.out q m l _ HR.out).mono ?_; rintro e w1 ⟨rfl, hf1⟩; have hc1 := hf1.cell ec (fun h => h); have hlt1 : bd < w1.heap.size := Nat.lt_of_lt_of_le hbl hf1.size; have p2 := hf1.cell e2 (fun h => h); have p3 := hf1.cell e3 (fun h => h); have p2f := hf1.frozen hbl (ef 2) (fun h => h); have p3f := hf1.frozen hbl (ef 3) (fun h => h); have HF1 : Hid (Fr (fun _ => False) w w1) := hf1; have HC1 : Hid (DeAt ((w1.setCell ⟨bd, 2, none⟩ (.int .u32 (d : Int))).setCell ⟨bd, 2, none⟩ (.int .u32 (q : Int))) bd gc cc vb B { s := { a := q, c := c, t := tt, p := p }, x := x, made := made }) := (((HO.out.keptAll hf1).setA d).setA q); clear hf1) | (go_at_call 80; refine (likelier_at _ gc k y hc1 HYL.out).mono ?_; rw [← HZ.out]; rintro e w2 ⟨rfl, rfl⟩))
  refine (learn_de _ bd gc cc vb B _ k false HC1.out HKL.out (by simp only []; rw [← HY.out]; exact HYL.out)).mono ?_
  rintro e w3 ⟨rfl, hc3, hs3⟩
  have HC3 : Hid (DeAt w3 bd gc cc vb B { s := { a := q, c := c, t := tt, p := p }, x := x.set k (learnP false (x.getD k 0)), made := made }) := hc3
  have HS3 : Hid (DStep bd gc ((w2.setCell ⟨bd, 2, none⟩ (.int .u32 (d : Int))).setCell ⟨bd, 2, none⟩ (.int .u32 (q : Int))) w3) := hs3
  clear hc3 hs3
  go_wp2_with fail
  refine (renewD_any _ bd gc cc vb B _ HC3.out HB.out HDW.out HLT.out).mono ?_
  rintro e w4 ⟨rfl, hc4, hs4⟩
  go_wp2_with fail
  go_ret
  have ep : decP B { a := a, c := c, t := tt, p := p } y = renewD B 16 { a := q, c := c, t := tt, p := p } := by rw [decP, if_neg HNS.out, HS.out]
  have ex : decX { a := a, c := c, t := tt, p := p } y = learnP false y := by rw [decX, if_neg HNS.out, HL.out]
  have eb : decBit { a := a, c := c, t := tt, p := p } y = 0 := by rw [decBit, if_neg HNS.out, HL.out, ← HZ.out]; rfl
  refine ⟨by rw [eb]; rfl, ?_, DStep.lift HF1.out (DStep.trans (Fr.setCell (Fr.setCell (Fr.refl _ _) (fun _ => Or.inl rfl) _) (fun _ => Or.inl rfl) _) (DStep.trans HS3.out hs4))⟩
  rw [ep, ex, HY.out]
  exact hc4


set_option maxRecDepth 100000 in
set_option maxHeartbeats 2000000 in
theorem dec_ul0 (w : World) (bd gc cc : Nat) (vb : Value) (B : List Nat) (o : De) (k : Nat) (h : DeAt w bd gc cc vb B o) (hB : ∀ y ∈ B, y < 256) (hok : Dok B o.s) (hk : k < o.x.length) (hx : o.x.getD k 0 < 94) (h0 : ¬ (o.s.c / 65536 < rQ (o.x.getD k 0 / 2))) (h1 : (o.s.a - rQ (o.x.getD k 0 / 2) < rQ (o.x.getD k 0 / 2))) (h3 : o.s.a - rQ (o.x.getD k 0 / 2) < 32768) (h4 : o.x.getD k 0 % 2 = 0) :
    Calls Try.prog 88 #[.pointer (some ⟨bd, 0, none⟩), .pointer (some ⟨gc, k, none⟩)] w fun e w' => e = .returned (.int .u8 (decBit o.s (o.x.getD k 0) : Nat)) ∧ DeAt w' bd gc cc vb B { o with s := decP B o.s (o.x.getD k 0), x := o.x.set k (decX o.s (o.x.getD k 0)) } ∧ DStep bd gc w w' := by
  obtain ⟨e0, e1, e2, e3, e4, e5, e6, ef⟩ := cell_of_seven h.blk
  have ec := h.ctx hk
  have hbl := h.lt
  have HO : Hid (DeAt w bd gc cc vb B o) := h
  have HK : Hid (Dok B o.s) := hok
  have HB : Hid (∀ y ∈ B, y < 256) := hB
  have HKL : Hid (k < o.x.length) := hk
  have hh := hok.half
  have ha := hok.dw.alt
  have hct := hok.dw.clt
  clear h hok hB hk
  obtain ⟨y, HY⟩ : ∃ y, Hid (y = o.x.getD k 0) := ⟨_, rfl⟩
  rw [← HY.out] at ec hx ⊢
  have HYL : Hid (y < 94) := hx
  obtain ⟨q, m, l, t, HR⟩ : ∃ q m l t, Hid (IsRow (y / 2) q m l t) := ⟨_, _, _, _, IsRow.of hx⟩
  obtain ⟨hq1, hq2, hm, hl⟩ := HR.out.bd
  obtain ⟨z, HZ⟩ : ∃ z, Hid (z = y % 2) := ⟨_, rfl⟩
  have hz : z < 2 := by rw [HZ.out]; omega
  rw [← HY.out, ← HR.out.hq] at h0 h1
  have HQ : Hid (q = rQ (y / 2)) := HR.out.hq
  obtain ⟨s, x, made⟩ := o
  obtain ⟨a, c, tt, p⟩ := s
  simp only [] at *
  obtain ⟨d, hd⟩ : ∃ d, d = a - q := ⟨_, rfl⟩
  have hdi : (a : Int) - (q : Int) = (d : Int) := by omega
  obtain ⟨cq, HCQ⟩ : ∃ cq, Hid (cq = c - q * 65536) := ⟨_, rfl⟩
  rw [← hd] at h1
  have HD : Hid (d = a - q) := hd
  clear hd
  have hfld : ∀ w, (Instr.field 127 (.agg #[.int .u32 (q : Int), .int .u8 (m : Int), .int .u8 (l : Int), .bool t]) 0).run Try.prog w = .ok (.int .u32 (q : Int)) w := fun _ => by kernel_rfl
  have hlow : decide ((c : Int) / 65536 < (q : Int)) = false := decide_eq_false (by omega)
  have hcq : (c : Int) - (q : Int) * 65536 = (cq : Int) := by rw [HCQ.out]; omega
  rw [← HY.out, ← HR.out.hq, ← HD.out] at h3
  have hg2 : (decide (32768 ≤ (d : Int))) = false := decide_eq_false (by omega)
  rw [← HY.out, ← HZ.out] at h4
  subst h4
  have hlt2 : (decide ((d : Int) < (q : Int))) = true := decide_eq_true (by omega)
  have HNS : Hid (¬ decStay { a := a, c := c, t := tt, p := p } (rQ (y / 2))) := by
    show ¬ _
    rw [← HQ.out]; intro hh; have := hh.2; simp only [] at this; rw [← HD.out] at this; omega
  have HS : Hid (decS { a := a, c := c, t := tt, p := p } (rQ (y / 2)) = { a := d, c := cq, t := tt, p := p }) := by
    show decS _ _ = _
    rw [← HQ.out, decS, if_neg h0, HD.out, HCQ.out]
  have HL : Hid (decLikely { a := a, c := c, t := tt, p := p } (rQ (y / 2)) = false) := by
    show (decide (c / 65536 < rQ (y / 2)) == decide (a - rQ (y / 2) < rQ (y / 2))) = false
    rw [← HQ.out, ← HD.out, decide_eq_false h0, decide_eq_true h1]; rfl
  have HDW : Hid (Dw B { a := d, c := cq, t := tt, p := p }) := by
    show Dw _ _
    rw [← HS.out]; exact decS_dw HK.out (by rw [← HQ.out]; exact hq1) (by rw [← HQ.out]; exact hq2)
  have HLT : Hid (({ a := d, c := cq, t := tt, p := p } : Ds).a < 32768) := by
    show _ < _
    rw [← HS.out]; exact decS_a HK.out (by rw [← HQ.out]; exact hq2) HNS.out
  go_enter Try.func88, Try.ntmps88
  go_wp2_with (first | (go_at_call 79; refine (row_at _ gc k y ec HYL.out q m l _ HR.out).mono ?_; rintro e w1 ⟨rfl, hf1⟩; have hc1 := hf1.cell ec (fun h => h); have hlt1 : bd < w1.heap.size := Nat.lt_of_lt_of_le hbl hf1.size; have p2 := hf1.cell e2 (fun h => h); have p3 := hf1.cell e3 (fun h => h); have p2f := hf1.frozen hbl (ef 2) (fun h => h); have p3f := hf1.frozen hbl (ef 3) (fun h => h); have HF1 : Hid (Fr (fun _ => False) w w1) := hf1; have HC1 : Hid (DeAt ((w1.setCell ⟨bd, 2, none⟩ (.int .u32 (d : Int))).setCell ⟨bd, 3, none⟩ (.int .u32 (cq : Int))) bd gc cc vb B { s := { a := d, c := cq, t := tt, p := p }, x := x, made := made }) := (((HO.out.keptAll hf1).setA d).setC cq); clear hf1) | (go_at_call 80; refine (likelier_at _ gc k y hc1 HYL.out).mono ?_; rw [← HZ.out]; rintro e w2 ⟨rfl, rfl⟩))
  refine (learn_de _ bd gc cc vb B _ k false HC1.out HKL.out (by simp only []; rw [← HY.out]; exact HYL.out)).mono ?_
  rintro e w3 ⟨rfl, hc3, hs3⟩
  have HC3 : Hid (DeAt w3 bd gc cc vb B { s := { a := d, c := cq, t := tt, p := p }, x := x.set k (learnP false (x.getD k 0)), made := made }) := hc3
  have HS3 : Hid (DStep bd gc ((w2.setCell ⟨bd, 2, none⟩ (.int .u32 (d : Int))).setCell ⟨bd, 3, none⟩ (.int .u32 (cq : Int))) w3) := hs3
  clear hc3 hs3
  go_wp2_with fail
  refine (renewD_any _ bd gc cc vb B _ HC3.out HB.out HDW.out HLT.out).mono ?_
  rintro e w4 ⟨rfl, hc4, hs4⟩
  go_wp2_with fail
  go_ret
  have ep : decP B { a := a, c := c, t := tt, p := p } y = renewD B 16 { a := d, c := cq, t := tt, p := p } := by rw [decP, if_neg HNS.out, HS.out]
  have ex : decX { a := a, c := c, t := tt, p := p } y = learnP false y := by rw [decX, if_neg HNS.out, HL.out]
  have eb : decBit { a := a, c := c, t := tt, p := p } y = 1 := by rw [decBit, if_neg HNS.out, HL.out, ← HZ.out]; rfl
  refine ⟨by rw [eb]; rfl, ?_, DStep.lift HF1.out (DStep.trans (Fr.setCell (Fr.setCell (Fr.refl _ _) (fun _ => Or.inl rfl) _) (fun _ => Or.inl rfl) _) (DStep.trans HS3.out hs4))⟩
  rw [ep, ex, HY.out]
  exact hc4


set_option maxRecDepth 100000 in
set_option maxHeartbeats 2000000 in
theorem dec_ul1 (w : World) (bd gc cc : Nat) (vb : Value) (B : List Nat) (o : De) (k : Nat) (h : DeAt w bd gc cc vb B o) (hB : ∀ y ∈ B, y < 256) (hok : Dok B o.s) (hk : k < o.x.length) (hx : o.x.getD k 0 < 94) (h0 : ¬ (o.s.c / 65536 < rQ (o.x.getD k 0 / 2))) (h1 : (o.s.a - rQ (o.x.getD k 0 / 2) < rQ (o.x.getD k 0 / 2))) (h3 : o.s.a - rQ (o.x.getD k 0 / 2) < 32768) (h4 : o.x.getD k 0 % 2 = 1) :
    Calls Try.prog 88 #[.pointer (some ⟨bd, 0, none⟩), .pointer (some ⟨gc, k, none⟩)] w fun e w' => e = .returned (.int .u8 (decBit o.s (o.x.getD k 0) : Nat)) ∧ DeAt w' bd gc cc vb B { o with s := decP B o.s (o.x.getD k 0), x := o.x.set k (decX o.s (o.x.getD k 0)) } ∧ DStep bd gc w w' := by
  obtain ⟨e0, e1, e2, e3, e4, e5, e6, ef⟩ := cell_of_seven h.blk
  have ec := h.ctx hk
  have hbl := h.lt
  have HO : Hid (DeAt w bd gc cc vb B o) := h
  have HK : Hid (Dok B o.s) := hok
  have HB : Hid (∀ y ∈ B, y < 256) := hB
  have HKL : Hid (k < o.x.length) := hk
  have hh := hok.half
  have ha := hok.dw.alt
  have hct := hok.dw.clt
  clear h hok hB hk
  obtain ⟨y, HY⟩ : ∃ y, Hid (y = o.x.getD k 0) := ⟨_, rfl⟩
  rw [← HY.out] at ec hx ⊢
  have HYL : Hid (y < 94) := hx
  obtain ⟨q, m, l, t, HR⟩ : ∃ q m l t, Hid (IsRow (y / 2) q m l t) := ⟨_, _, _, _, IsRow.of hx⟩
  obtain ⟨hq1, hq2, hm, hl⟩ := HR.out.bd
  obtain ⟨z, HZ⟩ : ∃ z, Hid (z = y % 2) := ⟨_, rfl⟩
  have hz : z < 2 := by rw [HZ.out]; omega
  rw [← HY.out, ← HR.out.hq] at h0 h1
  have HQ : Hid (q = rQ (y / 2)) := HR.out.hq
  obtain ⟨s, x, made⟩ := o
  obtain ⟨a, c, tt, p⟩ := s
  simp only [] at *
  obtain ⟨d, hd⟩ : ∃ d, d = a - q := ⟨_, rfl⟩
  have hdi : (a : Int) - (q : Int) = (d : Int) := by omega
  obtain ⟨cq, HCQ⟩ : ∃ cq, Hid (cq = c - q * 65536) := ⟨_, rfl⟩
  rw [← hd] at h1
  have HD : Hid (d = a - q) := hd
  clear hd
  have hfld : ∀ w, (Instr.field 127 (.agg #[.int .u32 (q : Int), .int .u8 (m : Int), .int .u8 (l : Int), .bool t]) 0).run Try.prog w = .ok (.int .u32 (q : Int)) w := fun _ => by kernel_rfl
  have hlow : decide ((c : Int) / 65536 < (q : Int)) = false := decide_eq_false (by omega)
  have hcq : (c : Int) - (q : Int) * 65536 = (cq : Int) := by rw [HCQ.out]; omega
  rw [← HY.out, ← HR.out.hq, ← HD.out] at h3
  have hg2 : (decide (32768 ≤ (d : Int))) = false := decide_eq_false (by omega)
  rw [← HY.out, ← HZ.out] at h4
  subst h4
  have hlt2 : (decide ((d : Int) < (q : Int))) = true := decide_eq_true (by omega)
  have HNS : Hid (¬ decStay { a := a, c := c, t := tt, p := p } (rQ (y / 2))) := by
    show ¬ _
    rw [← HQ.out]; intro hh; have := hh.2; simp only [] at this; rw [← HD.out] at this; omega
  have HS : Hid (decS { a := a, c := c, t := tt, p := p } (rQ (y / 2)) = { a := d, c := cq, t := tt, p := p }) := by
    show decS _ _ = _
    rw [← HQ.out, decS, if_neg h0, HD.out, HCQ.out]
  have HL : Hid (decLikely { a := a, c := c, t := tt, p := p } (rQ (y / 2)) = false) := by
    show (decide (c / 65536 < rQ (y / 2)) == decide (a - rQ (y / 2) < rQ (y / 2))) = false
    rw [← HQ.out, ← HD.out, decide_eq_false h0, decide_eq_true h1]; rfl
  have HDW : Hid (Dw B { a := d, c := cq, t := tt, p := p }) := by
    show Dw _ _
    rw [← HS.out]; exact decS_dw HK.out (by rw [← HQ.out]; exact hq1) (by rw [← HQ.out]; exact hq2)
  have HLT : Hid (({ a := d, c := cq, t := tt, p := p } : Ds).a < 32768) := by
    show _ < _
    rw [← HS.out]; exact decS_a HK.out (by rw [← HQ.out]; exact hq2) HNS.out
  go_enter Try.func88, Try.ntmps88
  go_wp2_with (first | (go_at_call 79; refine (row_at _ gc k y ec HYL.out q m l _ HR.out).mono ?_; rintro e w1 ⟨rfl, hf1⟩; have hc1 := hf1.cell ec (fun h => h); have hlt1 : bd < w1.heap.size := Nat.lt_of_lt_of_le hbl hf1.size; have p2 := hf1.cell e2 (fun h => h); have p3 := hf1.cell e3 (fun h => h); have p2f := hf1.frozen hbl (ef 2) (fun h => h); have p3f := hf1.frozen hbl (ef 3) (fun h => h); have HF1 : Hid (Fr (fun _ => False) w w1) := hf1; have HC1 : Hid (DeAt ((w1.setCell ⟨bd, 2, none⟩ (.int .u32 (d : Int))).setCell ⟨bd, 3, none⟩ (.int .u32 (cq : Int))) bd gc cc vb B { s := { a := d, c := cq, t := tt, p := p }, x := x, made := made }) := (((HO.out.keptAll hf1).setA d).setC cq); clear hf1) | (go_at_call 80; refine (likelier_at _ gc k y hc1 HYL.out).mono ?_; rw [← HZ.out]; rintro e w2 ⟨rfl, rfl⟩))
  refine (learn_de _ bd gc cc vb B _ k false HC1.out HKL.out (by simp only []; rw [← HY.out]; exact HYL.out)).mono ?_
  rintro e w3 ⟨rfl, hc3, hs3⟩
  have HC3 : Hid (DeAt w3 bd gc cc vb B { s := { a := d, c := cq, t := tt, p := p }, x := x.set k (learnP false (x.getD k 0)), made := made }) := hc3
  have HS3 : Hid (DStep bd gc ((w2.setCell ⟨bd, 2, none⟩ (.int .u32 (d : Int))).setCell ⟨bd, 3, none⟩ (.int .u32 (cq : Int))) w3) := hs3
  clear hc3 hs3
  go_wp2_with fail
  refine (renewD_any _ bd gc cc vb B _ HC3.out HB.out HDW.out HLT.out).mono ?_
  rintro e w4 ⟨rfl, hc4, hs4⟩
  go_wp2_with fail
  go_ret
  have ep : decP B { a := a, c := c, t := tt, p := p } y = renewD B 16 { a := d, c := cq, t := tt, p := p } := by rw [decP, if_neg HNS.out, HS.out]
  have ex : decX { a := a, c := c, t := tt, p := p } y = learnP false y := by rw [decX, if_neg HNS.out, HL.out]
  have eb : decBit { a := a, c := c, t := tt, p := p } y = 0 := by rw [decBit, if_neg HNS.out, HL.out, ← HZ.out]; rfl
  refine ⟨by rw [eb]; rfl, ?_, DStep.lift HF1.out (DStep.trans (Fr.setCell (Fr.setCell (Fr.refl _ _) (fun _ => Or.inl rfl) _) (fun _ => Or.inl rfl) _) (DStep.trans HS3.out hs4))⟩
  rw [ep, ex, HY.out]
  exact hc4


set_option maxRecDepth 100000 in
set_option maxHeartbeats 2000000 in
theorem dec_ug (w : World) (bd gc cc : Nat) (vb : Value) (B : List Nat) (o : De) (k : Nat) (h : DeAt w bd gc cc vb B o) (hB : ∀ y ∈ B, y < 256) (hok : Dok B o.s) (hk : k < o.x.length) (hx : o.x.getD k 0 < 94) (h0 : ¬ (o.s.c / 65536 < rQ (o.x.getD k 0 / 2))) (h1 : ¬ (o.s.a - rQ (o.x.getD k 0 / 2) < rQ (o.x.getD k 0 / 2))) (h3 : o.s.a - rQ (o.x.getD k 0 / 2) < 32768) :
    Calls Try.prog 88 #[.pointer (some ⟨bd, 0, none⟩), .pointer (some ⟨gc, k, none⟩)] w fun e w' => e = .returned (.int .u8 (decBit o.s (o.x.getD k 0) : Nat)) ∧ DeAt w' bd gc cc vb B { o with s := decP B o.s (o.x.getD k 0), x := o.x.set k (decX o.s (o.x.getD k 0)) } ∧ DStep bd gc w w' := by
  obtain ⟨e0, e1, e2, e3, e4, e5, e6, ef⟩ := cell_of_seven h.blk
  have ec := h.ctx hk
  have hbl := h.lt
  have HO : Hid (DeAt w bd gc cc vb B o) := h
  have HK : Hid (Dok B o.s) := hok
  have HB : Hid (∀ y ∈ B, y < 256) := hB
  have HKL : Hid (k < o.x.length) := hk
  have hh := hok.half
  have ha := hok.dw.alt
  have hct := hok.dw.clt
  clear h hok hB hk
  obtain ⟨y, HY⟩ : ∃ y, Hid (y = o.x.getD k 0) := ⟨_, rfl⟩
  rw [← HY.out] at ec hx ⊢
  have HYL : Hid (y < 94) := hx
  obtain ⟨q, m, l, t, HR⟩ : ∃ q m l t, Hid (IsRow (y / 2) q m l t) := ⟨_, _, _, _, IsRow.of hx⟩
  obtain ⟨hq1, hq2, hm, hl⟩ := HR.out.bd
  obtain ⟨z, HZ⟩ : ∃ z, Hid (z = y % 2) := ⟨_, rfl⟩
  have hz : z < 2 := by rw [HZ.out]; omega
  rw [← HY.out, ← HR.out.hq] at h0 h1
  have HQ : Hid (q = rQ (y / 2)) := HR.out.hq
  obtain ⟨s, x, made⟩ := o
  obtain ⟨a, c, tt, p⟩ := s
  simp only [] at *
  obtain ⟨d, hd⟩ : ∃ d, d = a - q := ⟨_, rfl⟩
  have hdi : (a : Int) - (q : Int) = (d : Int) := by omega
  obtain ⟨cq, HCQ⟩ : ∃ cq, Hid (cq = c - q * 65536) := ⟨_, rfl⟩
  rw [← hd] at h1
  have HD : Hid (d = a - q) := hd
  clear hd
  have hfld : ∀ w, (Instr.field 127 (.agg #[.int .u32 (q : Int), .int .u8 (m : Int), .int .u8 (l : Int), .bool t]) 0).run Try.prog w = .ok (.int .u32 (q : Int)) w := fun _ => by kernel_rfl
  have hlow : decide ((c : Int) / 65536 < (q : Int)) = false := decide_eq_false (by omega)
  have hcq : (c : Int) - (q : Int) * 65536 = (cq : Int) := by rw [HCQ.out]; omega
  rw [← HY.out, ← HR.out.hq, ← HD.out] at h3
  have hg2 : (decide (32768 ≤ (d : Int))) = false := decide_eq_false (by omega)
  have hlt2 : (decide ((d : Int) < (q : Int))) = false := decide_eq_false (by omega)
  have HNS : Hid (¬ decStay { a := a, c := c, t := tt, p := p } (rQ (y / 2))) := by
    show ¬ _
    rw [← HQ.out]; intro hh; have := hh.2; simp only [] at this; rw [← HD.out] at this; omega
  have HS : Hid (decS { a := a, c := c, t := tt, p := p } (rQ (y / 2)) = { a := d, c := cq, t := tt, p := p }) := by
    show decS _ _ = _
    rw [← HQ.out, decS, if_neg h0, HD.out, HCQ.out]
  have HL : Hid (decLikely { a := a, c := c, t := tt, p := p } (rQ (y / 2)) = true) := by
    show (decide (c / 65536 < rQ (y / 2)) == decide (a - rQ (y / 2) < rQ (y / 2))) = true
    rw [← HQ.out, ← HD.out, decide_eq_false h0, decide_eq_false h1]; rfl
  have HDW : Hid (Dw B { a := d, c := cq, t := tt, p := p }) := by
    show Dw _ _
    rw [← HS.out]; exact decS_dw HK.out (by rw [← HQ.out]; exact hq1) (by rw [← HQ.out]; exact hq2)
  have HLT : Hid (({ a := d, c := cq, t := tt, p := p } : Ds).a < 32768) := by
    show _ < _
    rw [← HS.out]; exact decS_a HK.out (by rw [← HQ.out]; exact hq2) HNS.out
  go_enter Try.func88, Try.ntmps88
  go_wp2_with (first | (go_at_call 79; refine (row_at _ gc k y ec HYL.out q m l _ HR.out).mono ?_; rintro e w1 ⟨rfl, hf1⟩; have hc1 := hf1.cell ec (fun h => h); have hlt1 : bd < w1.heap.size := Nat.lt_of_lt_of_le hbl hf1.size; have p2 := hf1.cell e2 (fun h => h); have p3 := hf1.cell e3 (fun h => h); have p2f := hf1.frozen hbl (ef 2) (fun h => h); have p3f := hf1.frozen hbl (ef 3) (fun h => h); have HF1 : Hid (Fr (fun _ => False) w w1) := hf1; have HC1 : Hid (DeAt ((w1.setCell ⟨bd, 2, none⟩ (.int .u32 (d : Int))).setCell ⟨bd, 3, none⟩ (.int .u32 (cq : Int))) bd gc cc vb B { s := { a := d, c := cq, t := tt, p := p }, x := x, made := made }) := (((HO.out.keptAll hf1).setA d).setC cq); clear hf1) | (go_at_call 80; refine (likelier_at _ gc k y hc1 HYL.out).mono ?_; rw [← HZ.out]; rintro e w2 ⟨rfl, rfl⟩))
  refine (learn_de _ bd gc cc vb B _ k true HC1.out HKL.out (by simp only []; rw [← HY.out]; exact HYL.out)).mono ?_
  rintro e w3 ⟨rfl, hc3, hs3⟩
  have HC3 : Hid (DeAt w3 bd gc cc vb B { s := { a := d, c := cq, t := tt, p := p }, x := x.set k (learnP true (x.getD k 0)), made := made }) := hc3
  have HS3 : Hid (DStep bd gc ((w2.setCell ⟨bd, 2, none⟩ (.int .u32 (d : Int))).setCell ⟨bd, 3, none⟩ (.int .u32 (cq : Int))) w3) := hs3
  clear hc3 hs3
  go_wp2_with fail
  refine (renewD_any _ bd gc cc vb B _ HC3.out HB.out HDW.out HLT.out).mono ?_
  rintro e w4 ⟨rfl, hc4, hs4⟩
  go_wp2_with fail
  go_ret
  have ep : decP B { a := a, c := c, t := tt, p := p } y = renewD B 16 { a := d, c := cq, t := tt, p := p } := by rw [decP, if_neg HNS.out, HS.out]
  have ex : decX { a := a, c := c, t := tt, p := p } y = learnP true y := by rw [decX, if_neg HNS.out, HL.out]
  have eb : decBit { a := a, c := c, t := tt, p := p } y = z := by rw [decBit, if_neg HNS.out, HL.out, ← HZ.out]; rfl
  refine ⟨by rw [eb]; rfl, ?_, DStep.lift HF1.out (DStep.trans (Fr.setCell (Fr.setCell (Fr.refl _ _) (fun _ => Or.inl rfl) _) (fun _ => Or.inl rfl) _) (DStep.trans HS3.out hs4))⟩
  rw [ep, ex, HY.out]
  exact hc4


/-- A decision is decoded. -/
theorem decode_any (w : World) (bd gc cc : Nat) (vb : Value) (B : List Nat) (o : De) (k : Nat) (h : DeAt w bd gc cc vb B o) (hB : ∀ y ∈ B, y < 256) (hok : Dok B o.s) (hk : k < o.x.length) (hx : o.x.getD k 0 < 94) :
    Calls Try.prog 88 #[.pointer (some ⟨bd, 0, none⟩), .pointer (some ⟨gc, k, none⟩)] w fun e w' => e = .returned (.int .u8 (decBit o.s (o.x.getD k 0) : Nat)) ∧ DeAt w' bd gc cc vb B { o with s := decP B o.s (o.x.getD k 0), x := o.x.set k (decX o.s (o.x.getD k 0)) } ∧ DStep bd gc w w' := by
  by_cases h0 : o.s.c / 65536 < rQ (o.x.getD k 0 / 2)
  · by_cases h1 : o.s.a - rQ (o.x.getD k 0 / 2) < rQ (o.x.getD k 0 / 2)
    · exact dec_ll w bd gc cc vb B o k h hB hok hk hx h0 h1
    · by_cases h4 : o.x.getD k 0 % 2 = 0
      · exact dec_lg0 w bd gc cc vb B o k h hB hok hk hx h0 h1 h4
      · exact dec_lg1 w bd gc cc vb B o k h hB hok hk hx h0 h1 (by omega)
  · by_cases h3 : 32768 ≤ o.s.a - rQ (o.x.getD k 0 / 2)
    · exact dec_stay w bd gc cc vb B o k h hB hok hk hx h0 h3
    · by_cases h1 : o.s.a - rQ (o.x.getD k 0 / 2) < rQ (o.x.getD k 0 / 2)
      · by_cases h4 : o.x.getD k 0 % 2 = 0
        · exact dec_ul0 w bd gc cc vb B o k h hB hok hk hx h0 h1 (by omega) h4
        · exact dec_ul1 w bd gc cc vb B o k h hB hok hk hx h0 h1 (by omega) (by omega)
      · exact dec_ug w bd gc cc vb B o k h hB hok hk hx h0 h1 (by omega)

end Go.Proofs.Ytkggdnkmaldmlab
