/- A decision is coded. -/
import Derived.Test.YtkggdnkmaldmlabKRenew
import Derived.Test.YtkggdnkmaldmlabKTab
namespace Go.Proofs.Ytkggdnkmaldmlab
open Go.RowKit

theorem CStep.lift {bc gc gb gb' : Nat} {w w1 w2 : World} (f : Fr (fun _ => False) w w1) (h : CStep bc gc gb gb' w1 w2) : CStep bc gc gb gb' w w2 :=
  (CStep.of_fr (f.mono (fun _ _ hh => hh.elim))).trans h

/-- A context of a coder learns. -/
theorem learn_co (w : World) (bc gc cc gb cb : Nat) (o : Co) (k : Nat) (b : Bool) (h : CoAt w bc gc cc gb cb o) (hk : k < o.x.length) (hx : o.x.getD k 0 < 94) :
    Calls Try.prog 81 #[.pointer (some ⟨gc, k, none⟩), .bool b] w fun e w' => e = .returned (.tuple #[]) ∧ CoAt w' bc gc cc gb cb { o with x := o.x.set k (learnP b (o.x.getD k 0)) } ∧ CStep bc gc gb gb w w' := by
  refine (learn_at w gc k _ (h.ctx hk) (h.xs.frozenAt k) hx b).mono ?_
  rintro e w' ⟨rfl, w1, f1, f2⟩
  have h1 : CoAt w1 bc gc cc gb cb o := h.kept f1 (fun hh => hh) (fun hh => hh) (fun hh => hh)
  have h2 := (h1.setX k (learnP b (o.x.getD k 0))).kept f2 (fun hh => hh) (fun hh => hh) (fun hh => hh)
  refine ⟨rfl, h2, CStep.lift f1 (CStep.trans (CStep.of_fr ?_) (CStep.of_fr (f2.mono (fun _ _ hh => hh.elim))))⟩
  exact (Fr.set1 w1 gc k _).mono (fun i _ e => Or.inr (Or.inl e))

theorem set_self (x : List Nat) (k : Nat) : x.set k (x.getD k 0) = x := by
  apply List.ext_getElem?
  intro i
  rw [List.getElem?_set]
  split
  · rename_i e; subst e
    split
    · rename_i hk; rw [List.getD_eq_getElem?_getD, List.getElem?_eq_getElem hk]; rfl
    · rename_i hk; rw [List.getElem?_eq_none (by omega)]
  · rfl

set_option maxRecDepth 100000 in
set_option maxHeartbeats 2000000 in
theorem code_stay (w : World) (bc gc cc gb cb : Nat) (o : Co) (k bit : Nat) (h : CoAt w bc gc cc gb cb o) (hok : Cok o.s) (hk : k < o.x.length) (hx : o.x.getD k 0 < 94) (_ : bit < 2) (hn : o.s.b.length ≤ 900000000) (h0 : bit = o.x.getD k 0 % 2) (h1 : 32768 ≤ o.s.a - rQ (o.x.getD k 0 / 2)) :
    Calls Try.prog 77 #[.pointer (some ⟨bc, 0, none⟩), .pointer (some ⟨gc, k, none⟩), .int .u8 bit] w fun e w' => e = .returned (.tuple #[]) ∧ ∃ gb' cb', CoAt w' bc gc cc gb' cb' { o with s := codeP o.s (o.x.getD k 0) bit, x := o.x.set k (codeX o.s (o.x.getD k 0) bit) } ∧ CStep bc gc gb gb' w w' := by
  obtain ⟨e0, e1, e2, e3, e4, e5, e6, ef⟩ := cell_of_seven h.blk
  have ec := h.ctx hk
  have efc := h.xs.frozenAt k
  have hbl := h.lt
  have hxl := h.xlt
  have HO : Hid (CoAt w bc gc cc gb cb o) := h
  have HK : Hid (Cok o.s) := hok
  have HN : Hid (o.s.b.length ≤ 900000000) := hn
  have HKL : Hid (k < o.x.length) := hk
  have hh := hok.half
  have ha := hok.cw.alt
  have hct := hok.cw.c_lt
  clear h hok hn hk
  obtain ⟨y, HY⟩ : ∃ y, Hid (y = o.x.getD k 0) := ⟨_, rfl⟩
  rw [← HY.out] at ec hx ⊢
  have HYL : Hid (y < 94) := hx
  obtain ⟨q, m, l, t, HR⟩ : ∃ q m l t, Hid (IsRow (y / 2) q m l t) := ⟨_, _, _, _, IsRow.of hx⟩
  obtain ⟨hq1, hq2, hm, hl⟩ := HR.out.bd
  obtain ⟨z, HZ⟩ : ∃ z, Hid (z = y % 2) := ⟨_, rfl⟩
  have hz : z < 2 := by rw [HZ.out]; omega
  rw [← HY.out, ← HR.out.hq] at h1
  rw [← HY.out, ← HZ.out] at h0
  have HQ : Hid (q = rQ (y / 2)) := HR.out.hq
  obtain ⟨s, x, made⟩ := o
  obtain ⟨a, c, tt, b, ll⟩ := s
  simp only [] at *
  obtain ⟨d, hd⟩ : ∃ d, d = a - q := ⟨_, rfl⟩
  have hdi : (a : Int) - (q : Int) = (d : Int) := by omega
  rw [← hd] at h1
  have HD : Hid (d = a - q) := hd
  clear hd
  have hfld : ∀ w, (Instr.field 127 (.agg #[.int .u32 (q : Int), .int .u8 (m : Int), .int .u8 (l : Int), .bool t]) 0).run Try.prog w = .ok (.int .u32 (q : Int)) w := fun _ => by kernel_rfl
  have hl1 : ((bit : Int) == (z : Int)) = true := by rw [beq_iff_eq]; omega
  have hg2 : (decide (32768 ≤ (d : Int))) = true := decide_eq_true (by omega)
  have H1 : Hid (32768 ≤ d) := h1
  clear h1
  go_enter Try.func77, Try.ntmps77
  go_wp2_with (first | (go_at_call 79; refine (row_at _ gc k y ec HYL.out q m l _ HR.out).mono ?_; rintro e w1 ⟨rfl, hf1⟩; have hc1 := hf1.cell ec (fun h => h); have hfr1 := hf1.frozen hxl efc (fun h => h); have hlt1 : bc < w1.heap.size := Nat.lt_of_lt_of_le hbl hf1.size; have p2 := hf1.cell e2 (fun h => h); have p3 := hf1.cell e3 (fun h => h); have p2f := hf1.frozen hbl (ef 2) (fun h => h); have p3f := hf1.frozen hbl (ef 3) (fun h => h); have HF1 : Hid (Fr (fun _ => False) w w1) := hf1; clear hf1) | (go_at_call 80; refine (likelier_at _ gc k y hc1 HYL.out).mono ?_; rw [← HZ.out]; rintro e w2 ⟨rfl, rfl⟩))
  (try simp only [Exit.inBlock, Exit.then]); refine bodyPost_ret (results_none rfl _ _ _) rfl ?_
  have HC1 := HO.out.kept HF1.out (fun hh => hh) (fun hh => hh) (fun hh => hh)
  have hc2 := (HC1.setA d).setC (c + q)
  have ep : codeP { a := a, c := c, t := tt, b := b, l := ll } y bit = { a := d, c := c + q, t := tt, b := b, l := ll } := by
    rw [codeP, if_pos ⟨by rw [← HZ.out]; exact h0, by rw [← HQ.out]; rw [← HD.out]; exact H1.out⟩, ← HQ.out, HD.out]
  have ex : codeX { a := a, c := c, t := tt, b := b, l := ll } y bit = y := by
    rw [codeX, if_pos ⟨by rw [← HZ.out]; exact h0, by rw [← HQ.out]; rw [← HD.out]; exact H1.out⟩]
  refine ⟨rfl, gb, cb, ?_, CStep.lift HF1.out (CStep.of_fr (Fr.setCell (Fr.setCell (Fr.refl _ _) (fun _ => Or.inl rfl) _) (fun _ => Or.inl rfl) _))⟩
  rw [ep, ex, HY.out, set_self]
  exact hc2


set_option maxRecDepth 100000 in
set_option maxHeartbeats 2000000 in
theorem code_lq (w : World) (bc gc cc gb cb : Nat) (o : Co) (k bit : Nat) (h : CoAt w bc gc cc gb cb o) (hok : Cok o.s) (hk : k < o.x.length) (hx : o.x.getD k 0 < 94) (_ : bit < 2) (hn : o.s.b.length ≤ 900000000) (h0 : (bit = o.x.getD k 0 % 2)) (h1 :  o.s.a - rQ (o.x.getD k 0 / 2) < 32768) (h2 :  (o.s.a - rQ (o.x.getD k 0 / 2) < rQ (o.x.getD k 0 / 2))) :
    Calls Try.prog 77 #[.pointer (some ⟨bc, 0, none⟩), .pointer (some ⟨gc, k, none⟩), .int .u8 bit] w fun e w' => e = .returned (.tuple #[]) ∧ ∃ gb' cb', CoAt w' bc gc cc gb' cb' { o with s := codeP o.s (o.x.getD k 0) bit, x := o.x.set k (codeX o.s (o.x.getD k 0) bit) } ∧ CStep bc gc gb gb' w w' := by
  obtain ⟨e0, e1, e2, e3, e4, e5, e6, ef⟩ := cell_of_seven h.blk
  have ec := h.ctx hk
  have efc := h.xs.frozenAt k
  have hbl := h.lt
  have hxl := h.xlt
  have HO : Hid (CoAt w bc gc cc gb cb o) := h
  have HK : Hid (Cok o.s) := hok
  have HN : Hid (o.s.b.length ≤ 900000000) := hn
  have HKL : Hid (k < o.x.length) := hk
  have hh := hok.half
  have ha := hok.cw.alt
  have hct := hok.cw.c_lt
  clear h hok hn hk
  obtain ⟨y, HY⟩ : ∃ y, Hid (y = o.x.getD k 0) := ⟨_, rfl⟩
  rw [← HY.out] at ec hx ⊢
  have HYL : Hid (y < 94) := hx
  obtain ⟨q, m, l, t, HR⟩ : ∃ q m l t, Hid (IsRow (y / 2) q m l t) := ⟨_, _, _, _, IsRow.of hx⟩
  obtain ⟨hq1, hq2, hm, hl⟩ := HR.out.bd
  obtain ⟨z, HZ⟩ : ∃ z, Hid (z = y % 2) := ⟨_, rfl⟩
  have hz : z < 2 := by rw [HZ.out]; omega
  rw [← HY.out, ← HR.out.hq] at h1
  rw [← HY.out, ← HZ.out] at h0
  have HQ : Hid (q = rQ (y / 2)) := HR.out.hq
  obtain ⟨s, x, made⟩ := o
  obtain ⟨a, c, tt, b, ll⟩ := s
  simp only [] at *
  obtain ⟨d, hd⟩ : ∃ d, d = a - q := ⟨_, rfl⟩
  have hdi : (a : Int) - (q : Int) = (d : Int) := by omega
  rw [← hd] at h1
  have HD : Hid (d = a - q) := hd
  clear hd
  have hfld : ∀ w, (Instr.field 127 (.agg #[.int .u32 (q : Int), .int .u8 (m : Int), .int .u8 (l : Int), .bool t]) 0).run Try.prog w = .ok (.int .u32 (q : Int)) w := fun _ => by kernel_rfl
  have hl1 : ((bit : Int) == (z : Int)) = true := by rw [beq_iff_eq]; omega
  rw [← HY.out, ← HQ.out, ← HD.out] at h2
  have hlt2 : (decide ((d : Int) < (q : Int))) = true := decide_eq_true (by omega)
  have hg2 : (decide (32768 ≤ (d : Int))) = false := decide_eq_false (by omega)
  have HS : Hid (codeS { a := a, c := c, t := tt, b := b, l := ll } (rQ (y / 2)) (decide (bit = y % 2)) = { a := q, c := c, t := tt, b := b, l := ll }) := by
    show codeS _ _ _ = _
    rw [← HQ.out, ← HZ.out, decide_eq_true h0]
    rw [codeS, if_pos]
    · show (true = decide (a - q < q))
      rw [← HD.out, decide_eq_true h2]
  have HCW : Hid (Cw { a := q, c := c, t := tt, b := b, l := ll }) := by
    show Cw _
    rw [← HS.out]; exact codeS_cw HK.out (by rw [← HQ.out]; exact hq1) (by rw [← HQ.out]; exact hq2) _
  have HLT : Hid (({ a := q, c := c, t := tt, b := b, l := ll } : Cs).a < 32768) := by
    show _ < _
    rw [← HS.out]; exact codeS_a HK.out (by rw [← HQ.out]; exact hq1) (by rw [← HQ.out]; exact hq2) _ (by rw [← HQ.out, decide_eq_true_eq, ← HZ.out]; simp only []; omega)
  go_enter Try.func77, Try.ntmps77
  go_wp2_with (first | (go_at_call 79; refine (row_at _ gc k y ec HYL.out q m l _ HR.out).mono ?_; rintro e w1 ⟨rfl, hf1⟩; have hc1 := hf1.cell ec (fun h => h); have hfr1 := hf1.frozen hxl efc (fun h => h); have hlt1 : bc < w1.heap.size := Nat.lt_of_lt_of_le hbl hf1.size; have p2 := hf1.cell e2 (fun h => h); have p3 := hf1.cell e3 (fun h => h); have p2f := hf1.frozen hbl (ef 2) (fun h => h); have p3f := hf1.frozen hbl (ef 3) (fun h => h); have HF1 : Hid (Fr (fun _ => False) w w1) := hf1; have HC1 : Hid (CoAt ((w1.setCell ⟨bc, 2, none⟩ (.int .u32 (d : Int))).setCell ⟨bc, 2, none⟩ (.int .u32 (q : Int))) bc gc cc gb cb { s := { a := q, c := c, t := tt, b := b, l := ll }, x := x, made := made }) := (((HO.out.kept hf1 (fun hh => hh) (fun hh => hh) (fun hh => hh)).setA d).setA q); clear hf1) | (go_at_call 80; refine (likelier_at _ gc k y hc1 HYL.out).mono ?_; rw [← HZ.out]; rintro e w2 ⟨rfl, rfl⟩))
  refine (learn_co _ bc gc cc gb cb _ k true HC1.out HKL.out (by simp only []; rw [← HY.out]; exact HYL.out)).mono ?_
  rintro e w3 ⟨rfl, hc3, hs3⟩
  have HC3 : Hid (CoAt w3 bc gc cc gb cb { s := { a := q, c := c, t := tt, b := b, l := ll }, x := x.set k (learnP true (x.getD k 0)), made := made }) := hc3
  have HS3 : Hid (CStep bc gc gb gb ((w2.setCell ⟨bc, 2, none⟩ (.int .u32 (d : Int))).setCell ⟨bc, 2, none⟩ (.int .u32 (q : Int))) w3) := hs3
  clear hc3 hs3
  go_wp2_with fail
  refine (renew_any _ bc gc cc gb cb _ HC3.out HCW.out HLT.out HN.out).mono ?_
  rintro e w4 ⟨rfl, gb4, cb4, hc4, hs4⟩
  go_wp2_with fail
  go_end0
  have hcond : ¬ (bit = y % 2 ∧ 32768 ≤ a - rQ (y / 2)) := by rw [← HQ.out, ← HZ.out]; omega
  have ep : codeP { a := a, c := c, t := tt, b := b, l := ll } y bit = renewP 16 { a := q, c := c, t := tt, b := b, l := ll } := by
    rw [codeP, if_neg hcond, HS.out]
  have ex : codeX { a := a, c := c, t := tt, b := b, l := ll } y bit = learnP true y := by
    rw [codeX, if_neg hcond, ← HZ.out, decide_eq_true h0]
  refine ⟨rfl, gb4, cb4, ?_, CStep.lift HF1.out (CStep.trans (CStep.of_fr (Fr.setCell (Fr.setCell (Fr.refl _ _) (fun _ => Or.inl rfl) _) (fun _ => Or.inl rfl) _)) (CStep.trans HS3.out hs4))⟩
  rw [ep, ex, HY.out]
  exact hc4


set_option maxRecDepth 100000 in
set_option maxHeartbeats 2000000 in
theorem code_lc (w : World) (bc gc cc gb cb : Nat) (o : Co) (k bit : Nat) (h : CoAt w bc gc cc gb cb o) (hok : Cok o.s) (hk : k < o.x.length) (hx : o.x.getD k 0 < 94) (_ : bit < 2) (hn : o.s.b.length ≤ 900000000) (h0 : (bit = o.x.getD k 0 % 2)) (h1 :  o.s.a - rQ (o.x.getD k 0 / 2) < 32768) (h2 : ¬ (o.s.a - rQ (o.x.getD k 0 / 2) < rQ (o.x.getD k 0 / 2))) :
    Calls Try.prog 77 #[.pointer (some ⟨bc, 0, none⟩), .pointer (some ⟨gc, k, none⟩), .int .u8 bit] w fun e w' => e = .returned (.tuple #[]) ∧ ∃ gb' cb', CoAt w' bc gc cc gb' cb' { o with s := codeP o.s (o.x.getD k 0) bit, x := o.x.set k (codeX o.s (o.x.getD k 0) bit) } ∧ CStep bc gc gb gb' w w' := by
  obtain ⟨e0, e1, e2, e3, e4, e5, e6, ef⟩ := cell_of_seven h.blk
  have ec := h.ctx hk
  have efc := h.xs.frozenAt k
  have hbl := h.lt
  have hxl := h.xlt
  have HO : Hid (CoAt w bc gc cc gb cb o) := h
  have HK : Hid (Cok o.s) := hok
  have HN : Hid (o.s.b.length ≤ 900000000) := hn
  have HKL : Hid (k < o.x.length) := hk
  have hh := hok.half
  have ha := hok.cw.alt
  have hct := hok.cw.c_lt
  clear h hok hn hk
  obtain ⟨y, HY⟩ : ∃ y, Hid (y = o.x.getD k 0) := ⟨_, rfl⟩
  rw [← HY.out] at ec hx ⊢
  have HYL : Hid (y < 94) := hx
  obtain ⟨q, m, l, t, HR⟩ : ∃ q m l t, Hid (IsRow (y / 2) q m l t) := ⟨_, _, _, _, IsRow.of hx⟩
  obtain ⟨hq1, hq2, hm, hl⟩ := HR.out.bd
  obtain ⟨z, HZ⟩ : ∃ z, Hid (z = y % 2) := ⟨_, rfl⟩
  have hz : z < 2 := by rw [HZ.out]; omega
  rw [← HY.out, ← HR.out.hq] at h1
  rw [← HY.out, ← HZ.out] at h0
  have HQ : Hid (q = rQ (y / 2)) := HR.out.hq
  obtain ⟨s, x, made⟩ := o
  obtain ⟨a, c, tt, b, ll⟩ := s
  simp only [] at *
  obtain ⟨d, hd⟩ : ∃ d, d = a - q := ⟨_, rfl⟩
  have hdi : (a : Int) - (q : Int) = (d : Int) := by omega
  rw [← hd] at h1
  have HD : Hid (d = a - q) := hd
  clear hd
  have hfld : ∀ w, (Instr.field 127 (.agg #[.int .u32 (q : Int), .int .u8 (m : Int), .int .u8 (l : Int), .bool t]) 0).run Try.prog w = .ok (.int .u32 (q : Int)) w := fun _ => by kernel_rfl
  have hl1 : ((bit : Int) == (z : Int)) = true := by rw [beq_iff_eq]; omega
  rw [← HY.out, ← HQ.out, ← HD.out] at h2
  have hlt2 : (decide ((d : Int) < (q : Int))) = false := decide_eq_false (by omega)
  have hg2 : (decide (32768 ≤ (d : Int))) = false := decide_eq_false (by omega)
  have HS : Hid (codeS { a := a, c := c, t := tt, b := b, l := ll } (rQ (y / 2)) (decide (bit = y % 2)) = { a := d, c := c + q, t := tt, b := b, l := ll }) := by
    show codeS _ _ _ = _
    rw [← HQ.out, ← HZ.out, decide_eq_true h0]
    rw [codeS, if_neg]
    · simp only [HD.out]
    · show ¬ (true = decide (a - q < q))
      rw [← HD.out, decide_eq_false h2]; decide
  have HCW : Hid (Cw { a := d, c := c + q, t := tt, b := b, l := ll }) := by
    show Cw _
    rw [← HS.out]; exact codeS_cw HK.out (by rw [← HQ.out]; exact hq1) (by rw [← HQ.out]; exact hq2) _
  have HLT : Hid (({ a := d, c := c + q, t := tt, b := b, l := ll } : Cs).a < 32768) := by
    show _ < _
    rw [← HS.out]; exact codeS_a HK.out (by rw [← HQ.out]; exact hq1) (by rw [← HQ.out]; exact hq2) _ (by rw [← HQ.out, decide_eq_true_eq, ← HZ.out]; simp only []; omega)
  go_enter Try.func77, Try.ntmps77
  go_wp2_with (first | (go_at_call 79; refine (row_at _ gc k y ec HYL.out q m l _ HR.out).mono ?_; rintro e w1 ⟨rfl, hf1⟩; have hc1 := hf1.cell ec (fun h => h); have hfr1 := hf1.frozen hxl efc (fun h => h); have hlt1 : bc < w1.heap.size := Nat.lt_of_lt_of_le hbl hf1.size; have p2 := hf1.cell e2 (fun h => h); have p3 := hf1.cell e3 (fun h => h); have p2f := hf1.frozen hbl (ef 2) (fun h => h); have p3f := hf1.frozen hbl (ef 3) (fun h => h); have HF1 : Hid (Fr (fun _ => False) w w1) := hf1; have HC1 : Hid (CoAt ((w1.setCell ⟨bc, 2, none⟩ (.int .u32 (d : Int))).setCell ⟨bc, 3, none⟩ (.int .u32 ((c : Int) + (q : Int)))) bc gc cc gb cb { s := { a := d, c := c + q, t := tt, b := b, l := ll }, x := x, made := made }) := (((HO.out.kept hf1 (fun hh => hh) (fun hh => hh) (fun hh => hh)).setA d).setC (c + q)); clear hf1) | (go_at_call 80; refine (likelier_at _ gc k y hc1 HYL.out).mono ?_; rw [← HZ.out]; rintro e w2 ⟨rfl, rfl⟩))
  refine (learn_co _ bc gc cc gb cb _ k true HC1.out HKL.out (by simp only []; rw [← HY.out]; exact HYL.out)).mono ?_
  rintro e w3 ⟨rfl, hc3, hs3⟩
  have HC3 : Hid (CoAt w3 bc gc cc gb cb { s := { a := d, c := c + q, t := tt, b := b, l := ll }, x := x.set k (learnP true (x.getD k 0)), made := made }) := hc3
  have HS3 : Hid (CStep bc gc gb gb ((w2.setCell ⟨bc, 2, none⟩ (.int .u32 (d : Int))).setCell ⟨bc, 3, none⟩ (.int .u32 ((c : Int) + (q : Int)))) w3) := hs3
  clear hc3 hs3
  go_wp2_with fail
  refine (renew_any _ bc gc cc gb cb _ HC3.out HCW.out HLT.out HN.out).mono ?_
  rintro e w4 ⟨rfl, gb4, cb4, hc4, hs4⟩
  go_wp2_with fail
  go_end0
  have hcond : ¬ (bit = y % 2 ∧ 32768 ≤ a - rQ (y / 2)) := by rw [← HQ.out, ← HZ.out]; omega
  have ep : codeP { a := a, c := c, t := tt, b := b, l := ll } y bit = renewP 16 { a := d, c := c + q, t := tt, b := b, l := ll } := by
    rw [codeP, if_neg hcond, HS.out]
  have ex : codeX { a := a, c := c, t := tt, b := b, l := ll } y bit = learnP true y := by
    rw [codeX, if_neg hcond, ← HZ.out, decide_eq_true h0]
  refine ⟨rfl, gb4, cb4, ?_, CStep.lift HF1.out (CStep.trans (CStep.of_fr (Fr.setCell (Fr.setCell (Fr.refl _ _) (fun _ => Or.inl rfl) _) (fun _ => Or.inl rfl) _)) (CStep.trans HS3.out hs4))⟩
  rw [ep, ex, HY.out]
  exact hc4


set_option maxRecDepth 100000 in
set_option maxHeartbeats 2000000 in
theorem code_oc (w : World) (bc gc cc gb cb : Nat) (o : Co) (k bit : Nat) (h : CoAt w bc gc cc gb cb o) (hok : Cok o.s) (hk : k < o.x.length) (hx : o.x.getD k 0 < 94) (_ : bit < 2) (hn : o.s.b.length ≤ 900000000) (h0 : ¬ (bit = o.x.getD k 0 % 2)) (h1 :  o.s.a - rQ (o.x.getD k 0 / 2) < 65536) (h2 :  (o.s.a - rQ (o.x.getD k 0 / 2) < rQ (o.x.getD k 0 / 2))) :
    Calls Try.prog 77 #[.pointer (some ⟨bc, 0, none⟩), .pointer (some ⟨gc, k, none⟩), .int .u8 bit] w fun e w' => e = .returned (.tuple #[]) ∧ ∃ gb' cb', CoAt w' bc gc cc gb' cb' { o with s := codeP o.s (o.x.getD k 0) bit, x := o.x.set k (codeX o.s (o.x.getD k 0) bit) } ∧ CStep bc gc gb gb' w w' := by
  obtain ⟨e0, e1, e2, e3, e4, e5, e6, ef⟩ := cell_of_seven h.blk
  have ec := h.ctx hk
  have efc := h.xs.frozenAt k
  have hbl := h.lt
  have hxl := h.xlt
  have HO : Hid (CoAt w bc gc cc gb cb o) := h
  have HK : Hid (Cok o.s) := hok
  have HN : Hid (o.s.b.length ≤ 900000000) := hn
  have HKL : Hid (k < o.x.length) := hk
  have hh := hok.half
  have ha := hok.cw.alt
  have hct := hok.cw.c_lt
  clear h hok hn hk
  obtain ⟨y, HY⟩ : ∃ y, Hid (y = o.x.getD k 0) := ⟨_, rfl⟩
  rw [← HY.out] at ec hx ⊢
  have HYL : Hid (y < 94) := hx
  obtain ⟨q, m, l, t, HR⟩ : ∃ q m l t, Hid (IsRow (y / 2) q m l t) := ⟨_, _, _, _, IsRow.of hx⟩
  obtain ⟨hq1, hq2, hm, hl⟩ := HR.out.bd
  obtain ⟨z, HZ⟩ : ∃ z, Hid (z = y % 2) := ⟨_, rfl⟩
  have hz : z < 2 := by rw [HZ.out]; omega
  rw [← HY.out, ← HR.out.hq] at h1
  rw [← HY.out, ← HZ.out] at h0
  have HQ : Hid (q = rQ (y / 2)) := HR.out.hq
  obtain ⟨s, x, made⟩ := o
  obtain ⟨a, c, tt, b, ll⟩ := s
  simp only [] at *
  obtain ⟨d, hd⟩ : ∃ d, d = a - q := ⟨_, rfl⟩
  have hdi : (a : Int) - (q : Int) = (d : Int) := by omega
  rw [← hd] at h1
  have HD : Hid (d = a - q) := hd
  clear hd
  have hfld : ∀ w, (Instr.field 127 (.agg #[.int .u32 (q : Int), .int .u8 (m : Int), .int .u8 (l : Int), .bool t]) 0).run Try.prog w = .ok (.int .u32 (q : Int)) w := fun _ => by kernel_rfl
  have hl1 : ((bit : Int) == (z : Int)) = false := by rw [beq_eq_false_iff_ne]; omega
  rw [← HY.out, ← HQ.out, ← HD.out] at h2
  have hlt2 : (decide ((d : Int) < (q : Int))) = true := decide_eq_true (by omega)
  have HS : Hid (codeS { a := a, c := c, t := tt, b := b, l := ll } (rQ (y / 2)) (decide (bit = y % 2)) = { a := d, c := c + q, t := tt, b := b, l := ll }) := by
    show codeS _ _ _ = _
    rw [← HQ.out, ← HZ.out, decide_eq_false h0]
    rw [codeS, if_neg]
    · simp only [HD.out]
    · show ¬ (false = decide (a - q < q))
      rw [← HD.out, decide_eq_true h2]; decide
  have HCW : Hid (Cw { a := d, c := c + q, t := tt, b := b, l := ll }) := by
    show Cw _
    rw [← HS.out]; exact codeS_cw HK.out (by rw [← HQ.out]; exact hq1) (by rw [← HQ.out]; exact hq2) _
  have HLT : Hid (({ a := d, c := c + q, t := tt, b := b, l := ll } : Cs).a < 32768) := by
    show _ < _
    rw [← HS.out]; exact codeS_a HK.out (by rw [← HQ.out]; exact hq1) (by rw [← HQ.out]; exact hq2) _ (by rw [← HQ.out, decide_eq_true_eq, ← HZ.out]; simp only []; omega)
  go_enter Try.func77, Try.ntmps77
  go_wp2_with (first | (go_at_call 79; refine (row_at _ gc k y ec HYL.out q m l _ HR.out).mono ?_; rintro e w1 ⟨rfl, hf1⟩; have hc1 := hf1.cell ec (fun h => h); have hfr1 := hf1.frozen hxl efc (fun h => h); have hlt1 : bc < w1.heap.size := Nat.lt_of_lt_of_le hbl hf1.size; have p2 := hf1.cell e2 (fun h => h); have p3 := hf1.cell e3 (fun h => h); have p2f := hf1.frozen hbl (ef 2) (fun h => h); have p3f := hf1.frozen hbl (ef 3) (fun h => h); have HF1 : Hid (Fr (fun _ => False) w w1) := hf1; have HC1 : Hid (CoAt ((w1.setCell ⟨bc, 2, none⟩ (.int .u32 (d : Int))).setCell ⟨bc, 3, none⟩ (.int .u32 ((c : Int) + (q : Int)))) bc gc cc gb cb { s := { a := d, c := c + q, t := tt, b := b, l := ll }, x := x, made := made }) := (((HO.out.kept hf1 (fun hh => hh) (fun hh => hh) (fun hh => hh)).setA d).setC (c + q)); clear hf1) | (go_at_call 80; refine (likelier_at _ gc k y hc1 HYL.out).mono ?_; rw [← HZ.out]; rintro e w2 ⟨rfl, rfl⟩))
  refine (learn_co _ bc gc cc gb cb _ k false HC1.out HKL.out (by simp only []; rw [← HY.out]; exact HYL.out)).mono ?_
  rintro e w3 ⟨rfl, hc3, hs3⟩
  have HC3 : Hid (CoAt w3 bc gc cc gb cb { s := { a := d, c := c + q, t := tt, b := b, l := ll }, x := x.set k (learnP false (x.getD k 0)), made := made }) := hc3
  have HS3 : Hid (CStep bc gc gb gb ((w2.setCell ⟨bc, 2, none⟩ (.int .u32 (d : Int))).setCell ⟨bc, 3, none⟩ (.int .u32 ((c : Int) + (q : Int)))) w3) := hs3
  clear hc3 hs3
  go_wp2_with fail
  refine (renew_any _ bc gc cc gb cb _ HC3.out HCW.out HLT.out HN.out).mono ?_
  rintro e w4 ⟨rfl, gb4, cb4, hc4, hs4⟩
  go_wp2_with fail
  go_end0
  have hcond : ¬ (bit = y % 2 ∧ 32768 ≤ a - rQ (y / 2)) := by rw [← HQ.out, ← HZ.out]; omega
  have ep : codeP { a := a, c := c, t := tt, b := b, l := ll } y bit = renewP 16 { a := d, c := c + q, t := tt, b := b, l := ll } := by
    rw [codeP, if_neg hcond, HS.out]
  have ex : codeX { a := a, c := c, t := tt, b := b, l := ll } y bit = learnP false y := by
    rw [codeX, if_neg hcond, ← HZ.out, decide_eq_false h0]
  refine ⟨rfl, gb4, cb4, ?_, CStep.lift HF1.out (CStep.trans (CStep.of_fr (Fr.setCell (Fr.setCell (Fr.refl _ _) (fun _ => Or.inl rfl) _) (fun _ => Or.inl rfl) _)) (CStep.trans HS3.out hs4))⟩
  rw [ep, ex, HY.out]
  exact hc4


set_option maxRecDepth 100000 in
set_option maxHeartbeats 2000000 in
theorem code_oq (w : World) (bc gc cc gb cb : Nat) (o : Co) (k bit : Nat) (h : CoAt w bc gc cc gb cb o) (hok : Cok o.s) (hk : k < o.x.length) (hx : o.x.getD k 0 < 94) (_ : bit < 2) (hn : o.s.b.length ≤ 900000000) (h0 : ¬ (bit = o.x.getD k 0 % 2)) (h1 :  o.s.a - rQ (o.x.getD k 0 / 2) < 65536) (h2 : ¬ (o.s.a - rQ (o.x.getD k 0 / 2) < rQ (o.x.getD k 0 / 2))) :
    Calls Try.prog 77 #[.pointer (some ⟨bc, 0, none⟩), .pointer (some ⟨gc, k, none⟩), .int .u8 bit] w fun e w' => e = .returned (.tuple #[]) ∧ ∃ gb' cb', CoAt w' bc gc cc gb' cb' { o with s := codeP o.s (o.x.getD k 0) bit, x := o.x.set k (codeX o.s (o.x.getD k 0) bit) } ∧ CStep bc gc gb gb' w w' := by
  obtain ⟨e0, e1, e2, e3, e4, e5, e6, ef⟩ := cell_of_seven h.blk
  have ec := h.ctx hk
  have efc := h.xs.frozenAt k
  have hbl := h.lt
  have hxl := h.xlt
  have HO : Hid (CoAt w bc gc cc gb cb o) := h
  have HK : Hid (Cok o.s) := hok
  have HN : Hid (o.s.b.length ≤ 900000000) := hn
  have HKL : Hid (k < o.x.length) := hk
  have hh := hok.half
  have ha := hok.cw.alt
  have hct := hok.cw.c_lt
  clear h hok hn hk
  obtain ⟨y, HY⟩ : ∃ y, Hid (y = o.x.getD k 0) := ⟨_, rfl⟩
  rw [← HY.out] at ec hx ⊢
  have HYL : Hid (y < 94) := hx
  obtain ⟨q, m, l, t, HR⟩ : ∃ q m l t, Hid (IsRow (y / 2) q m l t) := ⟨_, _, _, _, IsRow.of hx⟩
  obtain ⟨hq1, hq2, hm, hl⟩ := HR.out.bd
  obtain ⟨z, HZ⟩ : ∃ z, Hid (z = y % 2) := ⟨_, rfl⟩
  have hz : z < 2 := by rw [HZ.out]; omega
  rw [← HY.out, ← HR.out.hq] at h1
  rw [← HY.out, ← HZ.out] at h0
  have HQ : Hid (q = rQ (y / 2)) := HR.out.hq
  obtain ⟨s, x, made⟩ := o
  obtain ⟨a, c, tt, b, ll⟩ := s
  simp only [] at *
  obtain ⟨d, hd⟩ : ∃ d, d = a - q := ⟨_, rfl⟩
  have hdi : (a : Int) - (q : Int) = (d : Int) := by omega
  rw [← hd] at h1
  have HD : Hid (d = a - q) := hd
  clear hd
  have hfld : ∀ w, (Instr.field 127 (.agg #[.int .u32 (q : Int), .int .u8 (m : Int), .int .u8 (l : Int), .bool t]) 0).run Try.prog w = .ok (.int .u32 (q : Int)) w := fun _ => by kernel_rfl
  have hl1 : ((bit : Int) == (z : Int)) = false := by rw [beq_eq_false_iff_ne]; omega
  rw [← HY.out, ← HQ.out, ← HD.out] at h2
  have hlt2 : (decide ((d : Int) < (q : Int))) = false := decide_eq_false (by omega)
  have HS : Hid (codeS { a := a, c := c, t := tt, b := b, l := ll } (rQ (y / 2)) (decide (bit = y % 2)) = { a := q, c := c, t := tt, b := b, l := ll }) := by
    show codeS _ _ _ = _
    rw [← HQ.out, ← HZ.out, decide_eq_false h0]
    rw [codeS, if_pos]
    · show (false = decide (a - q < q))
      rw [← HD.out, decide_eq_false h2]
  have HCW : Hid (Cw { a := q, c := c, t := tt, b := b, l := ll }) := by
    show Cw _
    rw [← HS.out]; exact codeS_cw HK.out (by rw [← HQ.out]; exact hq1) (by rw [← HQ.out]; exact hq2) _
  have HLT : Hid (({ a := q, c := c, t := tt, b := b, l := ll } : Cs).a < 32768) := by
    show _ < _
    rw [← HS.out]; exact codeS_a HK.out (by rw [← HQ.out]; exact hq1) (by rw [← HQ.out]; exact hq2) _ (by rw [← HQ.out, decide_eq_true_eq, ← HZ.out]; simp only []; omega)
  go_enter Try.func77, Try.ntmps77
  go_wp2_with (first | (go_at_call 79; refine (row_at _ gc k y ec HYL.out q m l _ HR.out).mono ?_; rintro e w1 ⟨rfl, hf1⟩; have hc1 := hf1.cell ec (fun h => h); have hfr1 := hf1.frozen hxl efc (fun h => h); have hlt1 : bc < w1.heap.size := Nat.lt_of_lt_of_le hbl hf1.size; have p2 := hf1.cell e2 (fun h => h); have p3 := hf1.cell e3 (fun h => h); have p2f := hf1.frozen hbl (ef 2) (fun h => h); have p3f := hf1.frozen hbl (ef 3) (fun h => h); have HF1 : Hid (Fr (fun _ => False) w w1) := hf1; have HC1 : Hid (CoAt ((w1.setCell ⟨bc, 2, none⟩ (.int .u32 (d : Int))).setCell ⟨bc, 2, none⟩ (.int .u32 (q : Int))) bc gc cc gb cb { s := { a := q, c := c, t := tt, b := b, l := ll }, x := x, made := made }) := (((HO.out.kept hf1 (fun hh => hh) (fun hh => hh) (fun hh => hh)).setA d).setA q); clear hf1) | (go_at_call 80; refine (likelier_at _ gc k y hc1 HYL.out).mono ?_; rw [← HZ.out]; rintro e w2 ⟨rfl, rfl⟩))
  refine (learn_co _ bc gc cc gb cb _ k false HC1.out HKL.out (by simp only []; rw [← HY.out]; exact HYL.out)).mono ?_
  rintro e w3 ⟨rfl, hc3, hs3⟩
  have HC3 : Hid (CoAt w3 bc gc cc gb cb { s := { a := q, c := c, t := tt, b := b, l := ll }, x := x.set k (learnP false (x.getD k 0)), made := made }) := hc3
  have HS3 : Hid (CStep bc gc gb gb ((w2.setCell ⟨bc, 2, none⟩ (.int .u32 (d : Int))).setCell ⟨bc, 2, none⟩ (.int .u32 (q : Int))) w3) := hs3
  clear hc3 hs3
  go_wp2_with fail
  refine (renew_any _ bc gc cc gb cb _ HC3.out HCW.out HLT.out HN.out).mono ?_
  rintro e w4 ⟨rfl, gb4, cb4, hc4, hs4⟩
  go_wp2_with fail
  go_end0
  have hcond : ¬ (bit = y % 2 ∧ 32768 ≤ a - rQ (y / 2)) := by rw [← HQ.out, ← HZ.out]; omega
  have ep : codeP { a := a, c := c, t := tt, b := b, l := ll } y bit = renewP 16 { a := q, c := c, t := tt, b := b, l := ll } := by
    rw [codeP, if_neg hcond, HS.out]
  have ex : codeX { a := a, c := c, t := tt, b := b, l := ll } y bit = learnP false y := by
    rw [codeX, if_neg hcond, ← HZ.out, decide_eq_false h0]
  refine ⟨rfl, gb4, cb4, ?_, CStep.lift HF1.out (CStep.trans (CStep.of_fr (Fr.setCell (Fr.setCell (Fr.refl _ _) (fun _ => Or.inl rfl) _) (fun _ => Or.inl rfl) _)) (CStep.trans HS3.out hs4))⟩
  rw [ep, ex, HY.out]
  exact hc4


/-- A decision is coded. -/
theorem code_any (w : World) (bc gc cc gb cb : Nat) (o : Co) (k bit : Nat) (h : CoAt w bc gc cc gb cb o) (hok : Cok o.s) (hk : k < o.x.length) (hx : o.x.getD k 0 < 94) (hbit : bit < 2) (hn : o.s.b.length ≤ 900000000) :
    Calls Try.prog 77 #[.pointer (some ⟨bc, 0, none⟩), .pointer (some ⟨gc, k, none⟩), .int .u8 bit] w fun e w' => e = .returned (.tuple #[]) ∧ ∃ gb' cb', CoAt w' bc gc cc gb' cb' { o with s := codeP o.s (o.x.getD k 0) bit, x := o.x.set k (codeX o.s (o.x.getD k 0) bit) } ∧ CStep bc gc gb gb' w w' := by
  have ha := hok.cw.alt
  by_cases h0 : bit = o.x.getD k 0 % 2
  · by_cases h1 : 32768 ≤ o.s.a - rQ (o.x.getD k 0 / 2)
    · exact code_stay w bc gc cc gb cb o k bit h hok hk hx hbit hn h0 h1
    · by_cases h2 : o.s.a - rQ (o.x.getD k 0 / 2) < rQ (o.x.getD k 0 / 2)
      · exact code_lq w bc gc cc gb cb o k bit h hok hk hx hbit hn h0 (by omega) h2
      · exact code_lc w bc gc cc gb cb o k bit h hok hk hx hbit hn h0 (by omega) h2
  · by_cases h2 : o.s.a - rQ (o.x.getD k 0 / 2) < rQ (o.x.getD k 0 / 2)
    · exact code_oc w bc gc cc gb cb o k bit h hok hk hx hbit hn h0 (by omega) h2
    · exact code_oq w bc gc cc gb cb o k bit h hok hk hx hbit hn h0 (by omega) h2

end Go.Proofs.Ytkggdnkmaldmlab
