/- The reference's decoder renewed. -/
import Derived.Test.YtdbblgceeclpaaaRdI
namespace Go.Proofs.Ytdbblgceeclpaaa
open Go.RowKit

theorem RdStep.trans {br gs gz : Nat} {w w1 w2 : World} (h : RdStep br gs gz w w1) (k : RdStep br gs gz w1 w2) : RdStep br gs gz w w2 := Fr.trans h k (fun _ _ e => e)
/-- Between two rounds of the renewal. -/
structure RdRen (w wr : World) (br gt ct gs gz n : Nat) (vb : Value) (B : List Nat) (o : De) (s : Ds) (f : Nat) : Prop where
  at_ : RdAt wr br gt ct gs gz n vb B { o with s := s }
  step : RdStep br gs gz w wr
  dw : Dw B s
  lt : s.a < 32768
  fuel : 32768 ≤ s.a * 2 ^ f
  eq : renewD B f s = renewD B 16 o.s

theorem RdRen.next {w wr w2 : World} {br gt ct gs gz n f : Nat} {vb : Value} {B : List Nat} {o : De} {s : Ds} {u v : Value} (h : RdRen w wr br gt ct gs gz n vb B o s f) (hco : RdAt w2 br gt ct gs gz n vb B { o with s := doubledD B s }) (hst : RdStep br gs gz wr w2) :
    ((∃ s f, RdRen w w2 br gt ct gs gz n vb B o s f) ∨ (RdAt w2 br gt ct gs gz n vb B { o with s := renewD B 16 o.s } ∧ RdStep br gs gz w w2 ∧ 32768 ≤ (renewD B 16 o.s).a ∧ (renewD B 16 o.s).a < 65536)) ∧ rrenMeas br u w2 < rrenMeas br v wr := by
  have ha := h.dw.apos
  have hlt := h.lt
  obtain ⟨k, rfl⟩ : ∃ k, f = k + 1 := by
    cases f with
    | zero => have := h.fuel; omega
    | succ k => exact ⟨k, rfl⟩
  have e2 := (cell_of_nine h.at_.blk).2.2.2.2.1
  have q2 := (cell_of_nine hco.blk).2.2.2.2.1
  have hm : rrenMeas br v wr = 65537 - s.a := by simp [rrenMeas, e2, intOf]
  obtain ⟨hdw, hda⟩ := doubledD_dw h.dw hlt
  have hm2 : rrenMeas br u w2 = 65537 - (doubledD B s).a := by simp [rrenMeas, q2, intOf]
  refine ⟨?_, by rw [hm, hm2]; omega⟩
  by_cases hh : (doubledD B s).a < 32768
  · refine Or.inl ⟨doubledD B s, k, hco, h.step.trans hst, hdw, hh, ?_, ?_⟩
    · have := h.fuel
      rw [hda, Nat.mul_comm 2, Nat.mul_assoc, Nat.mul_comm 2, ← Nat.pow_succ]; exact this
    · rw [← h.eq]; conv => rhs; rw [renewD, if_pos hh]
  · have e : renewD B 16 o.s = doubledD B s := by rw [← h.eq, renewD, if_neg hh]
    refine Or.inr ⟨?_, h.step.trans hst, ?_, ?_⟩
    · rw [e]; exact hco
    · rw [e]; omega
    · rw [e]; omega

set_option maxRecDepth 100000 in
set_option maxHeartbeats 4000000 in
theorem rrenewD_any (w : World) (br gt ct gs gz n : Nat) (vb : Value) (B : List Nat) (o : De) (h : RdAt w br gt ct gs gz n vb B o) (hB : ∀ y ∈ B, y < 256) (hw : Dw B o.s) (hlt : o.s.a < 32768) :
    Calls Try.prog 48 #[.pointer (some ⟨br, 0, none⟩)] w fun e w' => e = .returned (.tuple #[]) ∧ RdAt w' br gt ct gs gz n vb B { o with s := renewD B 16 o.s } ∧ RdStep br gs gz w w' := by
  have H0 : Hid (RdRen w w br gt ct gs gz n vb B o o.s 16) := ⟨h, Fr.refl _ _, hw, hlt, by have := hw.apos; omega, rfl⟩
  have HB : Hid (∀ y ∈ B, y < 256) := hB
  have HAnd : Hid (∀ m : Nat, m < 8589934592 → bits BinOp.and IntKind.i64 (m : Int) 4294967295 = ((m % 4294967296 : Nat) : Int)) := fun m hm => band64 m 32 (by omega) (by decide)
  clear h hw hlt hB
  go_enter Try.func48, Try.ntmps48
  go_wp2_with fail
  go_loopw [2] (fun i wr => (∃ b, i = .bool b) ∧ ((∃ s f, RdRen w wr br gt ct gs gz n vb B o s f) ∨ (i = .bool false ∧ RdAt wr br gt ct gs gz n vb B { o with s := renewD B 16 o.s } ∧ RdStep br gs gz w wr ∧ 32768 ≤ (renewD B 16 o.s).a ∧ (renewD B 16 o.s).a < 65536))) (rrenMeas br)
  case atStart => exact ⟨⟨true, rfl⟩, Or.inl ⟨_, _, H0.out⟩⟩
  case round =>
    obtain ⟨⟨bb, rfl⟩, hrel⟩ := hrel
    rcases hrel with ⟨s, f, hr⟩ | ⟨hbf, hco, hst, h1, h2⟩
    · obtain ⟨e0, e1, e2, e3, e4, e5, e6, e7, e8, ef⟩ := cell_of_nine hr.at_.blk
      have HR : Hid (RdRen w wr br gt ct gs gz n vb B o s f) := hr
      have hlt := hr.lt
      have hct := hr.dw.clt
      have htl := hr.dw.tlt
      have hbc : br < wr.heap.size := hr.at_.lt
      clear hr
      by_cases ht : s.t = 0
      · have ht0 : ((s.t : Int) == 0) = true := by rw [beq_iff_eq]; omega
        have HIn : Hid (Calls Try.prog 47 #[.pointer (some ⟨br, 0, none⟩)] wr fun e w' => e = .returned (.tuple #[]) ∧ RdAt w' br gt ct gs gz n vb B { o with s := inD B s } ∧ RdStep br gs gz wr w') := rin_any wr br gt ct gs gz n vb B { o with s := s } HR.out.at_ HB.out HR.out.dw
        obtain ⟨hiw, hia, hit⟩ := inD_dw HR.out.dw
        have HE : Hid (doubledD B s = { a := 2 * (inD B s).a, c := 2 * (inD B s).c % 4294967296, t := (inD B s).t - 1, p := (inD B s).p }) := by show _ = _; simp [doubledD, inZ, ht, twice]
        have hcl := hiw.clt
        have htl2 := hiw.tlt
        have ha1 : (inD B s).a < 32768 := by omega
        simp only [] at e4 e6
        obtain ⟨a0, Ha0⟩ : ∃ a0, Hid (a0 = s.a) := ⟨_, rfl⟩
        rw [← Ha0.out] at e4 hlt
        have hda : decide ((a0 : Int) < 32768) = true := decide_eq_true (by omega)
        clear hiw hia e0 e1 e2 e3 e5 e7 e8 ef
        cases bb
        all_goals
          go_wp2_with fail
          refine HIn.out.mono ?_
          rintro e w1 ⟨rfl, hc1, hs1⟩
          have HC1 : Hid (RdAt w1 br gt ct gs gz n vb B { o with s := inD B s }) := hc1
          have HS1 : Hid (RdStep br gs gz wr w1) := hs1
          obtain ⟨q0, q1, q2, q3, q4, q5, q6, q7, q8, qf⟩ := cell_of_nine hc1.blk
          clear hc1 hs1
          simp only [] at q0 q1 q2 q3 q4 q5 q6 q7 q8
          have hbl1 := HC1.out.lt
          generalize inD B s = s2 at *
          obtain ⟨a, c, t, p⟩ := s2
          simp only [] at *
          obtain ⟨d, HD⟩ : ∃ d, Hid (d = 2 * c % 4294967296) := ⟨_, rfl⟩
          have hd : bits BinOp.and IntKind.i64 (2 * (c : Int)) 4294967295 = (d : Int) := by
            have := HAnd.out (2 * c) (by omega)
            rw [HD.out]; exact this
          have HC : Hid (RdAt (((w1.setCell ⟨br, 4, none⟩ (.int .i64 (2 * (a : Int)))).setCell ⟨br, 5, none⟩ (.int .i64 (d : Int))).setCell ⟨br, 6, none⟩ (.int .i64 ((t : Int) - 1))) br gt ct gs gz n vb B { o with s := doubledD B s }) := by
            have := ((HC1.out.setA (2 * a)).setC d).setT (t - 1)
            rw [show ((2 * a : Nat) : Int) = 2 * (a : Int) by omega, show ((t - 1 : Nat) : Int) = (t : Int) - 1 by omega] at this
            rw [HE.out, ← HD.out]
            exact this
          have HFr : Hid (RdStep br gs gz wr (((w1.setCell ⟨br, 4, none⟩ (.int .i64 (2 * (a : Int)))).setCell ⟨br, 5, none⟩ (.int .i64 (d : Int))).setCell ⟨br, 6, none⟩ (.int .i64 ((t : Int) - 1)))) := HS1.out.trans (Fr.setCell (Fr.setCell (Fr.setCell (Fr.refl _ _) (fun _ => Or.inl rfl) _) (fun _ => Or.inl rfl) _) (fun _ => Or.inl rfl) _)
          go_wp2_with fail
          obtain ⟨r1, r2⟩ := RdRen.next (u := .bool false) (v := .bool true) HR.out HC.out HFr.out
          refine ⟨⟨⟨false, rfl⟩, ?_⟩, r2⟩
          rcases r1 with r | x3
          · exact Or.inl r
          · exact Or.inr ⟨rfl, x3⟩
      · have ht0 : ((s.t : Int) == 0) = false := by rw [beq_eq_false_iff_ne]; omega
        have HE : Hid (doubledD B s = { a := 2 * s.a, c := 2 * s.c % 4294967296, t := s.t - 1, p := s.p }) := by show _ = _; simp [doubledD, inZ, ht, twice]
        obtain ⟨a, c, t, p⟩ := s
        simp only [] at *
        have hda : decide ((a : Int) < 32768) = true := decide_eq_true (by omega)
        obtain ⟨d, HD⟩ : ∃ d, Hid (d = 2 * c % 4294967296) := ⟨_, rfl⟩
        have hd : bits BinOp.and IntKind.i64 (2 * (c : Int)) 4294967295 = (d : Int) := by
          have := HAnd.out (2 * c) (by omega)
          rw [HD.out]; exact this
        have HC : Hid (RdAt (((wr.setCell ⟨br, 4, none⟩ (.int .i64 (2 * (a : Int)))).setCell ⟨br, 5, none⟩ (.int .i64 (d : Int))).setCell ⟨br, 6, none⟩ (.int .i64 ((t : Int) - 1))) br gt ct gs gz n vb B { o with s := doubledD B { a := a, c := c, t := t, p := p } }) := by
          have := ((HR.out.at_.setA (2 * a)).setC d).setT (t - 1)
          rw [show ((2 * a : Nat) : Int) = 2 * (a : Int) by omega, show ((t - 1 : Nat) : Int) = (t : Int) - 1 by omega] at this
          rw [HE.out, ← HD.out]
          exact this
        have HFr : Hid (RdStep br gs gz wr (((wr.setCell ⟨br, 4, none⟩ (.int .i64 (2 * (a : Int)))).setCell ⟨br, 5, none⟩ (.int .i64 (d : Int))).setCell ⟨br, 6, none⟩ (.int .i64 ((t : Int) - 1)))) := Fr.setCell (Fr.setCell (Fr.setCell (Fr.refl _ _) (fun _ => Or.inl rfl) _) (fun _ => Or.inl rfl) _) (fun _ => Or.inl rfl) _
        cases bb
        all_goals
          go_wp2_with fail
          obtain ⟨r1, r2⟩ := RdRen.next (u := .bool false) (v := .bool true) HR.out HC.out HFr.out
          refine ⟨⟨⟨false, rfl⟩, ?_⟩, r2⟩
          rcases r1 with r | x3
          · exact Or.inl r
          · exact Or.inr ⟨rfl, x3⟩
    · simp only [Value.bool.injEq] at hbf
      subst hbf
      obtain ⟨e0, e1, e2, e3, e4, e5, e6, e7, e8, ef⟩ := cell_of_nine hco.blk
      have HF : Hid (RdAt wr br gt ct gs gz n vb B { o with s := renewD B 16 o.s } ∧ RdStep br gs gz w wr) := ⟨hco, hst⟩
      simp only [] at e4
      obtain ⟨a, Ha⟩ : ∃ a, Hid (a = (renewD B 16 o.s).a) := ⟨_, rfl⟩
      rw [← Ha.out] at e4 h1 h2
      have hda : decide ((a : Int) < 32768) = false := decide_eq_false (by omega)
      have HA1 : Hid (32768 ≤ a) := h1
      clear hco hst e0 e1 e2 e3 e5 e6 e7 e8 h1
      go_wp2_with fail
      go_end0
      exact ⟨rfl, HF.out⟩

end Go.Proofs.Ytdbblgceeclpaaa
