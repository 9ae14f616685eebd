/- The reference's coder renewed. -/
import Derived.Test.YtllhekkclhcdbaaDoorKReO
namespace Go.Proofs.YtllhekkclhcdbaaDoor
open Go.RowKit

/-- Between two rounds of the renewal. -/
structure Rren (w wr : World) (br gt ct gs gz n gb : Nat) (o : Co) (dn : Bool) (s : Cs) (gb' cb' f : Nat) : Prop where
  at_ : ReAt wr br gt ct gs gz n gb' cb' { o with s := s } dn
  step : RStep br gs gz gb gb' w wr
  cw : Cw s
  lt : s.a < 32768
  fuel : 32768 ≤ s.a * 2 ^ f
  eq : renewP f s = renewP 16 o.s
  len : s.b.length + f ≤ 1000000000

def rrenMeas (br : Nat) (_ : Value) (wr : World) : Nat := 65537 - (intOf ((wr.cell? ⟨br, 4, none⟩).getD undef)).toNat

theorem Rren.next {w wr w2 : World} {br gt ct gs gz n gb gb' cb' gb2 cb2 f : Nat} {o : Co} {dn : Bool} {s : Cs} {u v : Value} (h : Rren w wr br gt ct gs gz n gb o dn s gb' cb' f) (hco : ReAt w2 br gt ct gs gz n gb2 cb2 { o with s := doubled s } dn) (hst : RStep br gs gz gb' gb2 wr w2) :
    ((∃ s gb' cb' f, Rren w w2 br gt ct gs gz n gb o dn s gb' cb' f) ∨ (∃ gb' cb', ReAt w2 br gt ct gs gz n gb' cb' { o with s := renewP 16 o.s } dn ∧ RStep br gs gz gb gb' w w2 ∧ 32768 ≤ (renewP 16 o.s).a ∧ (renewP 16 o.s).a < 65536)) ∧ rrenMeas br u w2 < rrenMeas br v wr := by
  have ha := h.cw.apos
  have hlt := h.lt
  obtain ⟨k, rfl⟩ : ∃ k, f = k + 1 := by
    cases f with
    | zero => have := h.fuel; omega
    | succ k => exact ⟨k, rfl⟩
  have e2 := (cell_of_nine h.at_.blk).2.2.2.2.1
  have q2 := (cell_of_nine hco.blk).2.2.2.2.1
  have hm : rrenMeas br v wr = 65537 - s.a := by simp [rrenMeas, e2, intOf]
  have hda := doubled_a s
  have hm2 : rrenMeas br u w2 = 65537 - (doubled s).a := by simp [rrenMeas, q2, intOf]
  refine ⟨?_, by rw [hm, hm2]; omega⟩
  by_cases hh : (doubled s).a < 32768
  · refine Or.inl ⟨doubled s, gb2, cb2, k, hco, h.step.trans hst, doubled_cw h.cw hlt, hh, ?_, ?_, ?_⟩
    · have := h.fuel
      rw [hda, Nat.mul_comm 2, Nat.mul_assoc, Nat.mul_comm 2, ← Nat.pow_succ]; exact this
    · rw [← h.eq]; conv => rhs; rw [renewP, if_pos hh]
    · have := h.len
      have := doubled_len s
      omega
  · have e : renewP 16 o.s = doubled s := by rw [← h.eq, renewP, if_neg hh]
    refine Or.inr ⟨gb2, cb2, ?_, h.step.trans hst, ?_, ?_⟩
    · rw [e]; exact hco
    · rw [e]; omega
    · rw [e]; omega

set_option maxRecDepth 100000 in
set_option maxHeartbeats 4000000 in
theorem rrenew_any (w : World) (br gt ct gs gz n gb cb : Nat) (o : Co) (dn : Bool) (h : ReAt w br gt ct gs gz n gb cb o dn) (hw : Cw o.s) (hlt : o.s.a < 32768) (hn : o.s.b.length ≤ 900000000) :
    Calls Tryd.prog 68 #[.pointer (some ⟨br, 0, none⟩)] w fun e w' => e = .returned (.tuple #[]) ∧ ∃ gb' cb', ReAt w' br gt ct gs gz n gb' cb' { o with s := renewP 16 o.s } dn ∧ RStep br gs gz gb gb' w w' := by
  have H0 : Hid (Rren w w br gt ct gs gz n gb o dn o.s gb cb 16) := ⟨h, RStep.of_fr (Fr.refl _ _), hw, hlt, by have := hw.apos; omega, rfl, by omega⟩
  clear h hw hlt hn
  go_enter Tryd.func68, Tryd.ntmps68
  go_wp2_with fail
  go_loopw [2] (fun i wr => (∃ b, i = .bool b) ∧ ((∃ s gb' cb' f, Rren w wr br gt ct gs gz n gb o dn s gb' cb' f) ∨ (i = .bool false ∧ ∃ gb' cb', ReAt wr br gt ct gs gz n gb' cb' { o with s := renewP 16 o.s } dn ∧ RStep br gs gz gb gb' w wr ∧ 32768 ≤ (renewP 16 o.s).a ∧ (renewP 16 o.s).a < 65536))) (rrenMeas br)
  case atStart => exact ⟨⟨true, rfl⟩, Or.inl ⟨_, _, _, _, H0.out⟩⟩
  case round =>
    obtain ⟨⟨bb, rfl⟩, hrel⟩ := hrel
    rcases hrel with ⟨s, gb', cb', f, hr⟩ | ⟨hbf, gb', cb', hco, hst, h1, h2⟩
    · obtain ⟨e0, e1, e2, e3, e4, e5, e6, e7, e8, ef⟩ := cell_of_nine hr.at_.blk
      have HR : Hid (Rren w wr br gt ct gs gz n gb o dn s gb' cb' f) := hr
      have hlt := hr.lt
      have hct := hr.cw.c_lt
      have hap := hr.cw.apos
      have htp := hr.cw.tpos
      have htl := hr.cw.tlt
      clear hr
      obtain ⟨a, c, t, b, l⟩ := s
      simp only [] at *
      have hbc : br < wr.heap.size := HR.out.at_.lt
      have hda : decide ((a : Int) < 32768) = true := decide_eq_true (by omega)
      obtain ⟨c2, Hc2⟩ : ∃ c2, Hid (c2 = 2 * c) := ⟨_, rfl⟩
      have hc2 : bits BinOp.and IntKind.i64 (2 * (c : Int)) 4294967295 = (c2 : Int) := by
        have := band64 (2 * c) 32 (by omega) (by decide)
        rw [Nat.mod_eq_of_lt (show 2 * c < 2 ^ 32 by have : (2 : Nat) ^ 32 = 4294967296 := rfl; omega)] at this
        rw [Hc2.out]
        exact this
      have hc2l : c2 < 268435456 := by rw [Hc2.out]; omega
      by_cases ht : t = 1
      · subst ht
        have HC : Hid (ReAt (((wr.setCell ⟨br, 4, none⟩ (.int .i64 (2 * (a : Int)))).setCell ⟨br, 5, none⟩ (.int .i64 (c2 : Int))).setCell ⟨br, 6, none⟩ (.int .i64 0)) br gt ct gs gz n gb' cb' { o with s := { a := 2 * a, c := 2 * c, t := 0, b := b, l := l } } dn) := by
          have := ((HR.out.at_.setA (2 * a)).setC c2).setT 0
          rw [show ((2 * a : Nat) : Int) = 2 * (a : Int) by omega] at this
          rw [← Hc2.out]; exact this
        have HFr : Hid (RStep br gs gz gb' gb' wr (((wr.setCell ⟨br, 4, none⟩ (.int .i64 (2 * (a : Int)))).setCell ⟨br, 5, none⟩ (.int .i64 (c2 : Int))).setCell ⟨br, 6, none⟩ (.int .i64 0))) := RStep.of_fr (Fr.setCell (Fr.setCell (Fr.setCell (Fr.refl _ _) (fun _ => Or.inl rfl) _) (fun _ => Or.inl rfl) _) (fun _ => Or.inl rfl) _)
        have hl2 := HR.out.cw.llt
        have hn2 : b.length ≤ 1000000000 := by have := HR.out.len; simp only [] at this; omega
        have hcx : 2 * c < 268435456 := by omega
        have HO : Hid (Calls Tryd.prog 52 #[.pointer (some ⟨br, 0, none⟩)] (((wr.setCell ⟨br, 4, none⟩ (.int .i64 (2 * (a : Int)))).setCell ⟨br, 5, none⟩ (.int .i64 (c2 : Int))).setCell ⟨br, 6, none⟩ (.int .i64 0)) fun e w' => e = .returned (.tuple #[]) ∧ ∃ g2 k2, ReAt w' br gt ct gs gz n g2 k2 { o with s := doubled { a := a, c := c, t := 1, b := b, l := l } } dn ∧ RStep br gs gz gb' g2 wr w') := by
          refine (rout_any _ br gt ct gs gz n gb' cb' _ dn HC.out hcx hl2 hn2).mono ?_
          rintro e w' ⟨rfl, g2, k2, hc', hs'⟩
          refine ⟨rfl, g2, k2, ?_, HFr.out.trans hs'⟩
          have e : doubled { a := a, c := c, t := 1, b := b, l := l } = outP { a := 2 * a, c := 2 * c, t := 0, b := b, l := l } := by simp [doubled]
          rw [e]; exact hc'
        cases bb
        all_goals
          go_wp2_with fail
          refine HO.out.mono ?_
          rintro e w2 ⟨rfl, g2, k2, hc3, hs3⟩
          have HC3 : Hid (ReAt w2 br gt ct gs gz n g2 k2 { o with s := doubled { a := a, c := c, t := 1, b := b, l := l } } dn ∧ RStep br gs gz gb' g2 wr w2) := ⟨hc3, hs3⟩
          clear hc3 hs3
          go_wp2_with fail
          obtain ⟨r1, r2⟩ := Rren.next (u := .bool false) (v := .bool true) HR.out HC3.out.1 HC3.out.2
          refine ⟨⟨⟨false, rfl⟩, ?_⟩, r2⟩
          rcases r1 with r | ⟨x1, x2, x3⟩
          · exact Or.inl r
          · exact Or.inr ⟨rfl, x1, x2, x3⟩
      · have HC : Hid (ReAt (((wr.setCell ⟨br, 4, none⟩ (.int .i64 (2 * (a : Int)))).setCell ⟨br, 5, none⟩ (.int .i64 (c2 : Int))).setCell ⟨br, 6, none⟩ (.int .i64 ((t : Int) - 1))) br gt ct gs gz n gb' cb' { o with s := doubled { a := a, c := c, t := t, b := b, l := l } } dn) := by
          have := ((HR.out.at_.setA (2 * a)).setC c2).setT (t - 1)
          rw [show ((2 * a : Nat) : Int) = 2 * (a : Int) by omega, show ((t - 1 : Nat) : Int) = (t : Int) - 1 by omega] at this
          have e : doubled { a := a, c := c, t := t, b := b, l := l } = { a := 2 * a, c := 2 * c, t := t - 1, b := b, l := l } := by simp [doubled, ht]
          rw [e, ← Hc2.out]; exact this
        have HFr : Hid (RStep br gs gz gb' gb' wr (((wr.setCell ⟨br, 4, none⟩ (.int .i64 (2 * (a : Int)))).setCell ⟨br, 5, none⟩ (.int .i64 (c2 : Int))).setCell ⟨br, 6, none⟩ (.int .i64 ((t : Int) - 1)))) := RStep.of_fr (Fr.setCell (Fr.setCell (Fr.setCell (Fr.refl _ _) (fun _ => Or.inl rfl) _) (fun _ => Or.inl rfl) _) (fun _ => Or.inl rfl) _)
        have ht0 : ((t : Int) - 1 == 0) = false := by rw [beq_eq_false_iff_ne]; omega
        cases bb
        all_goals
          go_wp2_with fail
          obtain ⟨r1, r2⟩ := Rren.next (u := .bool false) (v := .bool true) HR.out HC.out HFr.out
          refine ⟨⟨⟨false, rfl⟩, ?_⟩, r2⟩
          rcases r1 with r | ⟨x1, x2, x3⟩
          · exact Or.inl r
          · exact Or.inr ⟨rfl, x1, x2, x3⟩
    · simp only [Value.bool.injEq] at hbf
      subst hbf
      obtain ⟨e0, e1, e2, e3, e4, e5, e6, e7, e8, ef⟩ := cell_of_nine hco.blk
      have HF : Hid (ReAt wr br gt ct gs gz n gb' cb' { o with s := renewP 16 o.s } dn ∧ RStep br gs gz gb gb' w wr) := ⟨hco, hst⟩
      simp only [] at e4
      obtain ⟨a, Ha⟩ : ∃ a, Hid (a = (renewP 16 o.s).a) := ⟨_, rfl⟩
      rw [← Ha.out] at e4 h1 h2
      have hda : decide ((a : Int) < 32768) = false := decide_eq_false (by omega)
      have HA1 : Hid (32768 ≤ a) := h1
      clear hco hst e0 e1 e2 e3 e5 e6 e7 e8 h1
      go_wp2_with fail
      go_end0
      exact ⟨rfl, gb', cb', HF.out⟩

end Go.Proofs.YtllhekkclhcdbaaDoor
