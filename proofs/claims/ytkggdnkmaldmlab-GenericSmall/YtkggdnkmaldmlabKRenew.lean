/- The coder renewed. -/
import Derived.Test.YtkggdnkmaldmlabKOut
namespace Go.Proofs.Ytkggdnkmaldmlab
open Go.RowKit

/-- Between two rounds of the renewal. -/
structure Ren (w wr : World) (bc gc cc gb : Nat) (o : Co) (s : Cs) (gb' cb' f : Nat) : Prop where
  at_ : CoAt wr bc gc cc gb' cb' { o with s := s }
  step : CStep bc gc gb gb' w wr
  cw : Cw s
  lt : s.a < 32768
  fuel : 32768 ≤ s.a * 2 ^ f
  eq : renewP f s = renewP 16 o.s
  len : s.b.length + f ≤ 1000000000

def renMeas (bc : Nat) (i : Value) (wr : World) : Nat :=
  match i with
  | .bool true => 65537 - (intOf ((wr.cell? ⟨bc, 2, none⟩).getD undef)).toNat
  | _ => 0

theorem Ren.next {w wr w2 : World} {bc gc cc gb gb' cb' gb2 cb2 f : Nat} {o : Co} {s : Cs} (h : Ren w wr bc gc cc gb o s gb' cb' f) (hco : CoAt w2 bc gc cc gb2 cb2 { o with s := doubled s }) (hst : CStep bc gc gb' gb2 wr w2) (d : Bool) (hd : d = decide ((doubled s).a < 32768)) :
    ((Value.bool d = Value.bool true ∧ ∃ s gb' cb' f, Ren w w2 bc gc cc gb o s gb' cb' f) ∨ (Value.bool d = Value.bool false ∧ ∃ gb' cb', CoAt w2 bc gc cc gb' cb' { o with s := renewP 16 o.s } ∧ CStep bc gc gb gb' w w2)) ∧ renMeas bc (.bool d) w2 < renMeas bc (.bool true) wr := by
  have ha := h.cw.apos
  have hlt := h.lt
  obtain ⟨k, rfl⟩ : ∃ k, f = k + 1 := by
    cases f with
    | zero => have := h.fuel; omega
    | succ k => exact ⟨k, rfl⟩
  have e2 := (cell_of_seven h.at_.blk).2.2.1
  have q2 := (cell_of_seven hco.blk).2.2.1
  have hm : renMeas bc (.bool true) wr = 65537 - s.a := by simp [renMeas, e2, intOf]
  have hda := doubled_a s
  by_cases hh : (doubled s).a < 32768
  · have hdt : d = true := by rw [hd]; exact decide_eq_true hh
    subst hdt
    refine ⟨Or.inl ⟨rfl, doubled s, gb2, cb2, k, hco, h.step.trans hst, doubled_cw h.cw hlt, hh, ?_, ?_, ?_⟩, ?_⟩
    · have := h.fuel
      rw [hda, Nat.mul_comm 2, Nat.mul_assoc, Nat.mul_comm 2, ← Nat.pow_succ]; exact this
    · rw [← h.eq]; conv => rhs; rw [renewP, if_pos hh]
    · have := h.len
      have := doubled_len s
      omega
    · rw [hm]; simp only [renMeas, q2, Option.getD_some, intOf]; omega
  · have hdt : d = false := by rw [hd]; exact decide_eq_false hh
    subst hdt
    refine ⟨Or.inr ⟨rfl, gb2, cb2, ?_, h.step.trans hst⟩, ?_⟩
    · rw [← h.eq, renewP, if_neg hh]; exact hco
    · rw [hm]; simp only [renMeas]; omega

set_option maxRecDepth 100000 in
set_option maxHeartbeats 2000000 in
theorem renew_any (w : World) (bc gc cc gb cb : Nat) (o : Co) (h : CoAt w bc gc cc gb cb o) (hw : Cw o.s) (hlt : o.s.a < 32768) (hn : o.s.b.length ≤ 900000000) :
    Calls Try.prog 82 #[.pointer (some ⟨bc, 0, none⟩)] w fun e w' => e = .returned (.tuple #[]) ∧ ∃ gb' cb', CoAt w' bc gc cc gb' cb' { o with s := renewP 16 o.s } ∧ CStep bc gc gb gb' w w' := by
  have H0 : Hid (Ren w w bc gc cc gb o o.s gb cb 16) := ⟨h, CStep.refl _ _ _ _, hw, hlt, by have := hw.apos; omega, rfl, by omega⟩
  clear h hw hlt hn
  go_enter Try.func82, Try.ntmps82
  go_wp2_with fail
  go_loopw [2] (fun i wr => (i = .bool true ∧ ∃ s gb' cb' f, Ren w wr bc gc cc gb o s gb' cb' f) ∨ (i = .bool false ∧ ∃ gb' cb', CoAt wr bc gc cc gb' cb' { o with s := renewP 16 o.s } ∧ CStep bc gc gb gb' w wr)) (renMeas bc)
  case atStart => exact Or.inl ⟨rfl, _, _, _, _, H0.out⟩
  case round =>
    rcases hrel with ⟨rfl, s, gb', cb', f, hr⟩ | ⟨rfl, gb', cb', hco, hst⟩
    · obtain ⟨e0, e1, e2, e3, e4, e5, e6, ef⟩ := cell_of_seven hr.at_.blk
      have HR : Hid (Ren w wr bc gc cc gb o s gb' cb' f) := hr
      have hlt := hr.lt
      have hct := hr.cw.c_lt
      have hap := hr.cw.apos
      have htp := hr.cw.tpos
      have htl := hr.cw.tlt
      clear hr
      obtain ⟨a, c, t, b, l⟩ := s
      simp only [] at *
      have hbc : bc < wr.heap.size := HR.out.at_.lt
      by_cases ht : t = 1
      · subst ht
        have HC : Hid (CoAt (((wr.setCell ⟨bc, 2, none⟩ (.int .u32 ((a : Int) * 2))).setCell ⟨bc, 3, none⟩ (.int .u32 ((c : Int) * 2))).setCell ⟨bc, 4, none⟩ (.int .i64 0)) bc gc cc gb' cb' { o with s := { a := 2 * a, c := 2 * c, t := 0, b := b, l := l } }) := by
          have := ((HR.out.at_.setA (2 * a)).setC (2 * c)).setT 0
          rw [show ((2 * a : Nat) : Int) = (a : Int) * 2 by omega, show ((2 * c : Nat) : Int) = (c : Int) * 2 by omega] at this
          exact this
        have HFr : Hid (Fr (fun k => k = bc ∨ k = gc ∨ k = gb') wr (((wr.setCell ⟨bc, 2, none⟩ (.int .u32 ((a : Int) * 2))).setCell ⟨bc, 3, none⟩ (.int .u32 ((c : Int) * 2))).setCell ⟨bc, 4, none⟩ (.int .i64 0))) := Fr.setCell (Fr.setCell (Fr.setCell (Fr.refl _ _) (fun _ => Or.inl rfl) _) (fun _ => Or.inl rfl) _) (fun _ => Or.inl rfl) _
        have hc2 : 2 * c < 268435456 := by omega
        have hl2 := HR.out.cw.llt
        have hn2 : b.length ≤ 1000000000 := by have := HR.out.len; simp only [] at this; omega
        go_wp2_with (first | (go_at_call 33; refine (out_any _ bc gc cc gb' cb' _ HC.out hc2 hl2 hn2).mono ?_; rintro e w2 ⟨rfl, gb2, cb2, hco2, hst2⟩; have HC2 := hco2; have HS2 := hst2; obtain ⟨q0, q1, q2, q3, q4, q5, q6, qf⟩ := cell_of_seven hco2.blk; clear hco2 hst2))
        generalize hd : decide (_ < (32768 : Int)) = d
        have e : doubled { a := a, c := c, t := 1, b := b, l := l } = outP { a := 2 * a, c := 2 * c, t := 0, b := b, l := l } := by simp [doubled]
        exact Ren.next HR.out (by rw [e]; exact HC2) (by exact CStep.trans (CStep.of_fr HFr.out) HS2) d (by rw [← hd, e]; exact decide_eq_decide.2 (by omega))
      · have HC : Hid (CoAt (((wr.setCell ⟨bc, 2, none⟩ (.int .u32 ((a : Int) * 2))).setCell ⟨bc, 3, none⟩ (.int .u32 ((c : Int) * 2))).setCell ⟨bc, 4, none⟩ (.int .i64 ((t : Int) - 1))) bc gc cc gb' cb' { o with s := { a := 2 * a, c := 2 * c, t := t - 1, b := b, l := l } }) := by
          have := ((HR.out.at_.setA (2 * a)).setC (2 * c)).setT (t - 1)
          rw [show ((2 * a : Nat) : Int) = (a : Int) * 2 by omega, show ((2 * c : Nat) : Int) = (c : Int) * 2 by omega, show ((t - 1 : Nat) : Int) = (t : Int) - 1 by omega] at this
          exact this
        have HFr : Hid (Fr (fun k => k = bc ∨ k = gc ∨ k = gb') wr (((wr.setCell ⟨bc, 2, none⟩ (.int .u32 ((a : Int) * 2))).setCell ⟨bc, 3, none⟩ (.int .u32 ((c : Int) * 2))).setCell ⟨bc, 4, none⟩ (.int .i64 ((t : Int) - 1)))) := Fr.setCell (Fr.setCell (Fr.setCell (Fr.refl _ _) (fun _ => Or.inl rfl) _) (fun _ => Or.inl rfl) _) (fun _ => Or.inl rfl) _
        have ht0 : ((t : Int) - 1 == 0) = false := by rw [beq_eq_false_iff_ne]; omega
        go_wp2_with fail
        generalize hd : decide (_ < (32768 : Int)) = d
        have e : doubled { a := a, c := c, t := t, b := b, l := l } = { a := 2 * a, c := 2 * c, t := t - 1, b := b, l := l } := by simp [doubled, ht]
        exact Ren.next HR.out (by rw [e]; exact HC.out) (CStep.of_fr HFr.out) d (by rw [← hd, e]; exact decide_eq_decide.2 (by simp only []; omega))
    · go_wp2_with fail
      go_end0
      exact ⟨rfl, gb', cb', hco, hst⟩

end Go.Proofs.Ytkggdnkmaldmlab
