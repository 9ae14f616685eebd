/- The decoder renewed. -/
import Derived.Test.YtkggdnkmaldmlabKDe
namespace Go.Proofs.Ytkggdnkmaldmlab
open Go.RowKit

/-- Between two rounds of the renewal. -/
structure Dren (w wr : World) (bd gc cc : Nat) (vb : Value) (B : List Nat) (o : De) (s : Ds) (f : Nat) : Prop where
  at_ : DeAt wr bd gc cc vb B { o with s := s }
  step : DStep bd gc w wr
  dw : Dw B s
  lt : s.a < 32768
  fuel : 32768 ≤ s.a * 2 ^ f
  eq : renewD B f s = renewD B 16 o.s

theorem Dren.next {w wr w2 : World} {bd gc cc f : Nat} {vb : Value} {B : List Nat} {o : De} {s : Ds} (h : Dren w wr bd gc cc vb B o s f) (hco : DeAt w2 bd gc cc vb B { o with s := doubledD B s }) (hst : DStep bd gc wr w2) (d : Bool) (hd : d = decide ((doubledD B s).a < 32768)) :
    ((Value.bool d = Value.bool true ∧ ∃ s f, Dren w w2 bd gc cc vb B o s f) ∨ (Value.bool d = Value.bool false ∧ DeAt w2 bd gc cc vb B { o with s := renewD B 16 o.s } ∧ DStep bd gc w w2)) ∧ renMeas bd (.bool d) w2 < renMeas bd (.bool true) wr := by
  have ha := h.dw.apos
  have hlt := h.lt
  obtain ⟨k, rfl⟩ : ∃ k, f = k + 1 := by
    cases f with
    | zero => have := h.fuel; omega
    | succ k => exact ⟨k, rfl⟩
  have e2 := (cell_of_seven h.at_.blk).2.2.1
  have q2 := (cell_of_seven hco.blk).2.2.1
  have hm : renMeas bd (.bool true) wr = 65537 - s.a := by simp [renMeas, e2, intOf]
  obtain ⟨hdw, hda⟩ := doubledD_dw h.dw hlt
  by_cases hh : (doubledD B s).a < 32768
  · have hdt : d = true := by rw [hd]; exact decide_eq_true hh
    subst hdt
    refine ⟨Or.inl ⟨rfl, doubledD B s, k, hco, h.step.trans hst, hdw, hh, ?_, ?_⟩, ?_⟩
    · have := h.fuel
      rw [hda, Nat.mul_comm 2, Nat.mul_assoc, Nat.mul_comm 2, ← Nat.pow_succ]; exact this
    · rw [← h.eq]; conv => rhs; rw [renewD, if_pos hh]
    · rw [hm]; simp only [renMeas, q2, Option.getD_some, intOf]; omega
  · have hdt : d = false := by rw [hd]; exact decide_eq_false hh
    subst hdt
    refine ⟨Or.inr ⟨rfl, ?_, h.step.trans hst⟩, ?_⟩
    · rw [← h.eq, renewD, if_neg hh]; exact hco
    · rw [hm]; simp only [renMeas]; omega

set_option maxRecDepth 100000 in
set_option maxHeartbeats 2000000 in
theorem renewD_any (w : World) (bd gc cc : Nat) (vb : Value) (B : List Nat) (o : De) (h : DeAt w bd gc cc vb B o) (hB : ∀ y ∈ B, y < 256) (hw : Dw B o.s) (hlt : o.s.a < 32768) :
    Calls Try.prog 89 #[.pointer (some ⟨bd, 0, none⟩)] w fun e w' => e = .returned (.tuple #[]) ∧ DeAt w' bd gc cc vb B { o with s := renewD B 16 o.s } ∧ DStep bd gc w w' := by
  have H0 : Hid (Dren w w bd gc cc vb B o o.s 16) := ⟨h, Fr.refl _ _, hw, hlt, by have := hw.apos; omega, rfl⟩
  have HB : Hid (∀ y ∈ B, y < 256) := hB
  clear h hw hlt hB
  go_enter Try.func89, Try.ntmps89
  go_wp2_with fail
  go_loopw [2] (fun i wr => (i = .bool true ∧ ∃ s f, Dren w wr bd gc cc vb B o s f) ∨ (i = .bool false ∧ DeAt wr bd gc cc vb B { o with s := renewD B 16 o.s } ∧ DStep bd gc w wr)) (renMeas bd)
  case atStart => exact Or.inl ⟨rfl, _, _, H0.out⟩
  case round =>
    rcases hrel with ⟨rfl, s, f, hr⟩ | ⟨rfl, hco, hst⟩
    · obtain ⟨e0, e1, e2, e3, e4, e5, e6, ef⟩ := cell_of_seven hr.at_.blk
      have HR : Hid (Dren w wr bd gc cc vb B o s f) := hr
      have hlt := hr.lt
      have hbl := hr.at_.lt
      have hct := hr.dw.clt
      have htl := hr.dw.tlt
      clear hr
      by_cases ht : s.t = 0
      · have ht0 : ((s.t : Int) == 0) = true := by rw [beq_iff_eq]; omega
        have HA : Hid (DeAt wr bd gc cc vb B { o with s := s }) := HR.out.at_
        have HW : Hid (Dw B s) := HR.out.dw
        obtain ⟨hiw, hia, hit⟩ := inD_dw HR.out.dw
        have HIW : Hid (Dw B (inD B s)) := hiw
        have e : doubledD B s = { a := 2 * (inD B s).a, c := 2 * (inD B s).c % 4294967296, t := (inD B s).t - 1, p := (inD B s).p } := by simp [doubledD, inZ, ht, twice]
        have HE : Hid (doubledD B s = { a := 2 * (inD B s).a, c := 2 * (inD B s).c % 4294967296, t := (inD B s).t - 1, p := (inD B s).p }) := e
        have hcl := hiw.clt
        have htl2 := hiw.tlt
        have ha1 : (inD B s).a < 32768 := by omega
        clear e hiw hia
        go_wp2_with fail
        refine (in_any _ bd gc cc vb B { o with s := s } HA.out HB.out HW.out).mono ?_
        rintro e w1 ⟨rfl, hc1, hs1⟩
        have HC1 : Hid (DeAt w1 bd gc cc vb B { o with s := inD B s }) := hc1
        have HS1 : Hid (DStep bd gc wr w1) := hs1
        obtain ⟨q0, q1, q2, q3, q4, q5, q6, qf⟩ := cell_of_seven hc1.blk
        clear hc1 hs1 e0 e1 e2 e3 e4 e5 e6 ef
        simp only [] at q0 q1 q2 q3 q4 q5 q6
        generalize inD B s = s2 at *
        obtain ⟨a, c, t, p⟩ := s2
        simp only [] at *
        have hbl1 := HC1.out.lt
        obtain ⟨d, HD⟩ : ∃ d, Hid (d = 2 * c % 4294967296) := ⟨_, rfl⟩
        have hd : (c : Int) * 2 % 4294967296 = (d : Int) := by rw [HD.out]; omega
        have hd2 : d < 4294967296 := by rw [HD.out]; omega
        have HC : Hid (DeAt (((w1.setCell ⟨bd, 2, none⟩ (.int .u32 ((a : Int) * 2))).setCell ⟨bd, 3, none⟩ (.int .u32 (d : Int))).setCell ⟨bd, 4, none⟩ (.int .i64 ((t : Int) - 1))) bd gc cc vb B { o with s := doubledD B s }) := by
          have := ((HC1.out.setA (2 * a)).setC d).setT (t - 1)
          rw [show ((2 * a : Nat) : Int) = (a : Int) * 2 by omega, show ((t - 1 : Nat) : Int) = (t : Int) - 1 by omega] at this
          rw [HE.out, ← HD.out]
          exact this
        have HFr : Hid (DStep bd gc w1 (((w1.setCell ⟨bd, 2, none⟩ (.int .u32 ((a : Int) * 2))).setCell ⟨bd, 3, none⟩ (.int .u32 (d : Int))).setCell ⟨bd, 4, none⟩ (.int .i64 ((t : Int) - 1)))) := Fr.setCell (Fr.setCell (Fr.setCell (Fr.refl _ _) (fun _ => Or.inl rfl) _) (fun _ => Or.inl rfl) _) (fun _ => Or.inl rfl) _
        go_wp2_with fail
        generalize hdd : decide ((a : Int) * 2 < (32768 : Int)) = dd
        exact Dren.next HR.out HC.out (DStep.trans HS1.out HFr.out) dd (by rw [← hdd, HE.out]; exact decide_eq_decide.2 (by simp only []; omega))
      · have ht0 : ((s.t : Int) == 0) = false := by rw [beq_eq_false_iff_ne]; omega
        have HA : Hid (DeAt wr bd gc cc vb B { o with s := s }) := HR.out.at_
        have HE : Hid (doubledD B s = { a := 2 * s.a, c := 2 * s.c % 4294967296, t := s.t - 1, p := s.p }) := by show _ = _; simp [doubledD, inZ, ht, twice]
        obtain ⟨a, c, t, p⟩ := s
        simp only [] at *
        obtain ⟨d, HD⟩ : ∃ d, Hid (d = 2 * c % 4294967296) := ⟨_, rfl⟩
        have hd : (c : Int) * 2 % 4294967296 = (d : Int) := by rw [HD.out]; omega
        have hd2 : d < 4294967296 := by rw [HD.out]; omega
        have HC : Hid (DeAt (((wr.setCell ⟨bd, 2, none⟩ (.int .u32 ((a : Int) * 2))).setCell ⟨bd, 3, none⟩ (.int .u32 (d : Int))).setCell ⟨bd, 4, none⟩ (.int .i64 ((t : Int) - 1))) bd gc cc vb B { o with s := doubledD B { a := a, c := c, t := t, p := p } }) := by
          have := ((HA.out.setA (2 * a)).setC d).setT (t - 1)
          rw [show ((2 * a : Nat) : Int) = (a : Int) * 2 by omega, show ((t - 1 : Nat) : Int) = (t : Int) - 1 by omega] at this
          rw [HE.out, ← HD.out]
          exact this
        have HFr : Hid (DStep bd gc wr (((wr.setCell ⟨bd, 2, none⟩ (.int .u32 ((a : Int) * 2))).setCell ⟨bd, 3, none⟩ (.int .u32 (d : Int))).setCell ⟨bd, 4, none⟩ (.int .i64 ((t : Int) - 1)))) := Fr.setCell (Fr.setCell (Fr.setCell (Fr.refl _ _) (fun _ => Or.inl rfl) _) (fun _ => Or.inl rfl) _) (fun _ => Or.inl rfl) _
        go_wp2_with fail
        generalize hdd : decide ((a : Int) * 2 < (32768 : Int)) = dd
        exact Dren.next HR.out HC.out HFr.out dd (by rw [← hdd, HE.out]; exact decide_eq_decide.2 (by simp only []; omega))
    · go_wp2_with fail
      go_end0
      exact ⟨rfl, hco, hst⟩

end Go.Proofs.Ytkggdnkmaldmlab
