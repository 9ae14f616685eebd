/- The reference's coder renewed. -/
import Derived.Test.YtkggdnkmaldmlaaK34
import Derived.Deep.RegionHeldLaw
namespace Go.Proofs.Ytkggdnkmaldmlaa
open Go.RowKit

/-- Between two rounds of the renewal. -/
structure Rren (w wr : World) (br gt ct gs gz n gb : Nat) (o : Co) (dn : Bool) (s : Cs) (gb' cb' f : Nat) : Prop where
  at_ : ReAt wr br gt ct gs gz n gb' cb' { o with s := s } dn
  step : RStep br gs gz gb gb' w wr
  cw : Cw s
  lt : s.a < 32768
  fuel : 32768 ≤ s.a * 2 ^ f
  eq : renewP f s = renewP 16 o.s
  len : s.b.length + f ≤ 1000000000

def rrenMeas (br : Nat) (_ : Value) (wr : World) : Nat := 65537 - (intOf ((wr.cell? ⟨br, 4, none⟩).getD undef)).toNat

theorem Rren.next {w wr w2 : World} {br gt ct gs gz n gb gb' cb' gb2 cb2 f : Nat} {o : Co} {dn : Bool} {s : Cs} {u v : Value} (h : Rren w wr br gt ct gs gz n gb o dn s gb' cb' f) (hco : ReAt w2 br gt ct gs gz n gb2 cb2 { o with s := doubled s } dn) (hst : RStep br gs gz gb' gb2 wr w2) :
    ((∃ s gb' cb' f, Rren w w2 br gt ct gs gz n gb o dn s gb' cb' f) ∨ (∃ gb' cb', ReAt w2 br gt ct gs gz n gb' cb' { o with s := renewP 16 o.s } dn ∧ RStep br gs gz gb gb' w w2 ∧ 32768 ≤ (renewP 16 o.s).a ∧ (renewP 16 o.s).a < 65536)) ∧ rrenMeas br u w2 < rrenMeas br v wr := by
  have ha := h.cw.apos
  have hlt := h.lt
  obtain ⟨k, rfl⟩ : ∃ k, f = k + 1 := by
    cases f with
    | zero => have := h.fuel; omega
    | succ k => exact ⟨k, rfl⟩
  have e2 := (cell_of_nine h.at_.blk).2.2.2.2.1
  have q2 := (cell_of_nine hco.blk).2.2.2.2.1
  have hm : rrenMeas br v wr = 65537 - s.a := by simp [rrenMeas, e2, intOf]
  have hda := doubled_a s
  have hm2 : rrenMeas br u w2 = 65537 - (doubled s).a := by simp [rrenMeas, q2, intOf]
  refine ⟨?_, by rw [hm, hm2]; omega⟩
  by_cases hh : (doubled s).a < 32768
  · refine Or.inl ⟨doubled s, gb2, cb2, k, hco, h.step.trans hst, doubled_cw h.cw hlt, hh, ?_, ?_, ?_⟩
    · have := h.fuel
      rw [hda, Nat.mul_comm 2, Nat.mul_assoc, Nat.mul_comm 2, ← Nat.pow_succ]; exact this
    · rw [← h.eq]; conv => rhs; rw [renewP, if_pos hh]
    · have := h.len
      have := doubled_len s
      omega
  · have e : renewP 16 o.s = doubled s := by rw [← h.eq, renewP, if_neg hh]
    refine Or.inr ⟨gb2, cb2, ?_, h.step.trans hst, ?_, ?_⟩
    · rw [e]; exact hco
    · rw [e]; omega
    · rw [e]; omega

set_option maxRecDepth 100000 in
set_option maxHeartbeats 4000000 in
theorem rrenew_any (w : World) (br gt ct gs gz n gb cb : Nat) (o : Co) (dn : Bool) (h : ReAt w br gt ct gs gz n gb cb o dn) (hw : Cw o.s) (hlt : o.s.a < 32768) (hn : o.s.b.length ≤ 900000000) :
    Calls Try.prog 86 #[.pointer (some ⟨br, 0, none⟩)] w fun e w' => e = .returned (.tuple #[]) ∧ ∃ gb' cb', ReAt w' br gt ct gs gz n gb' cb' { o with s := renewP 16 o.s } dn ∧ RStep br gs gz gb gb' w w' := by
  have H0 : Hid (Rren w w br gt ct gs gz n gb o dn o.s gb cb 16) := ⟨h, RStep.of_fr (Fr.refl _ _), hw, hlt, by have := hw.apos; omega, rfl, by omega⟩
  clear h hw hlt hn
  go_enter Try.func86, Try.ntmps86
  go_wp2_with fail
  go_loopw [2] (fun i wr => (∃ b, i = .bool b) ∧ ((∃ s gb' cb' f, Rren w wr br gt ct gs gz n gb o dn s gb' cb' f) ∨ (i = .bool false ∧ ∃ gb' cb', ReAt wr br gt ct gs gz n gb' cb' { o with s := renewP 16 o.s } dn ∧ RStep br gs gz gb gb' w wr ∧ 32768 ≤ (renewP 16 o.s).a ∧ (renewP 16 o.s).a < 65536))) (rrenMeas br)
  case atStart => exact ⟨⟨true, rfl⟩, Or.inl ⟨_, _, _, _, H0.out⟩⟩
  case round =>
    obtain ⟨⟨bb, rfl⟩, hrel⟩ := hrel
    rcases hrel with ⟨s, gb', cb', f, hr⟩ | ⟨hbf, gb', cb', hco, hst, h1, h2⟩
    · obtain ⟨e0, e1, e2, e3, e4, e5, e6, e7, e8, ef⟩ := cell_of_nine hr.at_.blk
      have HR : Hid (Rren w wr br gt ct gs gz n gb o dn s gb' cb' f) := hr
      have hlt := hr.lt
      have hct := hr.cw.c_lt
      have hap := hr.cw.apos
      have htp := hr.cw.tpos
      have htl := hr.cw.tlt
      clear hr
      obtain ⟨a, c, t, b, l⟩ := s
      simp only [] at *
      have hbc : br < wr.heap.size := HR.out.at_.lt
      have hda : decide ((a : Int) < 32768) = true := decide_eq_true (by omega)
      obtain ⟨c2, Hc2⟩ : ∃ c2, Hid (c2 = 2 * c) := ⟨_, rfl⟩
      have hc2 : bits BinOp.and IntKind.i64 (2 * (c : Int)) 4294967295 = (c2 : Int) := by
        have := band64r (2 * c) 32 (by omega) (by decide)
        rw [Nat.mod_eq_of_lt (show 2 * c < 2 ^ 32 by have : (2 : Nat) ^ 32 = 4294967296 := rfl; omega)] at this
        rw [Hc2.out]
        exact this
      have hc2l : c2 < 268435456 := by rw [Hc2.out]; omega
      by_cases ht : t = 1
      · subst ht
        have HC : Hid (ReAt (((wr.setCell ⟨br, 4, none⟩ (.int .i64 (2 * (a : Int)))).setCell ⟨br, 5, none⟩ (.int .i64 (c2 : Int))).setCell ⟨br, 6, none⟩ (.int .i64 0)) br gt ct gs gz n gb' cb' { o with s := { a := 2 * a, c := 2 * c, t := 0, b := b, l := l } } dn) := by
          have := ((HR.out.at_.setA (2 * a)).setC c2).setT 0
          rw [show ((2 * a : Nat) : Int) = 2 * (a : Int) by omega] at this
          rw [← Hc2.out]; exact this
        have HFr : Hid (RStep br gs gz gb' gb' wr (((wr.setCell ⟨br, 4, none⟩ (.int .i64 (2 * (a : Int)))).setCell ⟨br, 5, none⟩ (.int .i64 (c2 : Int))).setCell ⟨br, 6, none⟩ (.int .i64 0))) := RStep.of_fr (Fr.setCell (Fr.setCell (Fr.setCell (Fr.refl _ _) (fun _ => Or.inl rfl) _) (fun _ => Or.inl rfl) _) (fun _ => Or.inl rfl) _)
        have hl2 := HR.out.cw.llt
        have hn2 : b.length ≤ 1000000000 := by have := HR.out.len; simp only [] at this; omega
        have hcx : 2 * c < 268435456 := by omega
        have HO : Hid (Calls Try.prog 60 #[.pointer (some ⟨br, 0, none⟩)] (((wr.setCell ⟨br, 4, none⟩ (.int .i64 (2 * (a : Int)))).setCell ⟨br, 5, none⟩ (.int .i64 (c2 : Int))).setCell ⟨br, 6, none⟩ (.int .i64 0)) fun e w' => e = .returned (.tuple #[]) ∧ ∃ g2 k2, ReAt w' br gt ct gs gz n g2 k2 { o with s := doubled { a := a, c := c, t := 1, b := b, l := l } } dn ∧ RStep br gs gz gb' g2 wr w') := by
          refine (rout_any _ br gt ct gs gz n gb' cb' _ dn HC.out hcx hl2 hn2).mono ?_
          rintro e w' ⟨rfl, g2, k2, hc', hs'⟩
          refine ⟨rfl, g2, k2, ?_, HFr.out.trans hs'⟩
          have e : doubled { a := a, c := c, t := 1, b := b, l := l } = outP { a := 2 * a, c := 2 * c, t := 0, b := b, l := l } := by simp [doubled]
          rw [e]; exact hc'
        cases bb
        all_goals
          go_wp2_with fail
          refine HO.out.mono ?_
          rintro e w2 ⟨rfl, g2, k2, hc3, hs3⟩
          have HC3 : Hid (ReAt w2 br gt ct gs gz n g2 k2 { o with s := doubled { a := a, c := c, t := 1, b := b, l := l } } dn ∧ RStep br gs gz gb' g2 wr w2) := ⟨hc3, hs3⟩
          clear hc3 hs3
          go_wp2_with fail
          obtain ⟨r1, r2⟩ := Rren.next (u := .bool false) (v := .bool true) HR.out HC3.out.1 HC3.out.2
          refine ⟨⟨⟨false, rfl⟩, ?_⟩, r2⟩
          rcases r1 with r | ⟨x1, x2, x3⟩
          · exact Or.inl r
          · exact Or.inr ⟨rfl, x1, x2, x3⟩
      · have HC : Hid (ReAt (((wr.setCell ⟨br, 4, none⟩ (.int .i64 (2 * (a : Int)))).setCell ⟨br, 5, none⟩ (.int .i64 (c2 : Int))).setCell ⟨br, 6, none⟩ (.int .i64 ((t : Int) - 1))) br gt ct gs gz n gb' cb' { o with s := doubled { a := a, c := c, t := t, b := b, l := l } } dn) := by
          have := ((HR.out.at_.setA (2 * a)).setC c2).setT (t - 1)
          rw [show ((2 * a : Nat) : Int) = 2 * (a : Int) by omega, show ((t - 1 : Nat) : Int) = (t : Int) - 1 by omega] at this
          have e : doubled { a := a, c := c, t := t, b := b, l := l } = { a := 2 * a, c := 2 * c, t := t - 1, b := b, l := l } := by simp [doubled, ht]
          rw [e, ← Hc2.out]; exact this
        have HFr : Hid (RStep br gs gz gb' gb' wr (((wr.setCell ⟨br, 4, none⟩ (.int .i64 (2 * (a : Int)))).setCell ⟨br, 5, none⟩ (.int .i64 (c2 : Int))).setCell ⟨br, 6, none⟩ (.int .i64 ((t : Int) - 1)))) := RStep.of_fr (Fr.setCell (Fr.setCell (Fr.setCell (Fr.refl _ _) (fun _ => Or.inl rfl) _) (fun _ => Or.inl rfl) _) (fun _ => Or.inl rfl) _)
        have ht0 : ((t : Int) - 1 == 0) = false := by rw [beq_eq_false_iff_ne]; omega
        cases bb
        all_goals
          go_wp2_with fail
          obtain ⟨r1, r2⟩ := Rren.next (u := .bool false) (v := .bool true) HR.out HC.out HFr.out
          refine ⟨⟨⟨false, rfl⟩, ?_⟩, r2⟩
          rcases r1 with r | ⟨x1, x2, x3⟩
          · exact Or.inl r
          · exact Or.inr ⟨rfl, x1, x2, x3⟩
    · simp only [Value.bool.injEq] at hbf
      subst hbf
      obtain ⟨e0, e1, e2, e3, e4, e5, e6, e7, e8, ef⟩ := cell_of_nine hco.blk
      have HF : Hid (ReAt wr br gt ct gs gz n gb' cb' { o with s := renewP 16 o.s } dn ∧ RStep br gs gz gb gb' w wr) := ⟨hco, hst⟩
      simp only [] at e4
      obtain ⟨a, Ha⟩ : ∃ a, Hid (a = (renewP 16 o.s).a) := ⟨_, rfl⟩
      rw [← Ha.out] at e4 h1 h2
      have hda : decide ((a : Int) < 32768) = false := decide_eq_false (by omega)
      have HA1 : Hid (32768 ≤ a) := h1
      clear hco hst e0 e1 e2 e3 e5 e6 e7 e8 h1
      go_wp2_with fail
      go_end0
      exact ⟨rfl, gb', cb', HF.out⟩

end Go.Proofs.Ytkggdnkmaldmlaa

/- The reference's 'States'. -/
namespace Go.Proofs.Ytkggdnkmaldmlaa
open Go.RowKit

set_option maxRecDepth 100000 in
set_option maxHeartbeats 2000000 in
theorem rstates_at (w : World) (br gt ct gs gz n gb cb : Nat) (o : Co) (dn : Bool) (h : ReAt w br gt ct gs gz n gb cb o dn) (hpos : 0 < n) (hlim : n ≤ 131072) (hx : ∀ y ∈ o.x, y < 94) :
    Calls Try.prog 33 #[.pointer (some ⟨br, 0, none⟩)] w fun e w' => ∃ rv, e = .returned rv ∧ w'.ownsRow 0 5 1 rv n (byteCells o.x) ∧ Fr (fun _ => False) w w' ∧ ∀ g, rv.ownBlock = some g → w.heap.size ≤ g := by
  obtain ⟨i0, hi, hz0, hz1, hz2⟩ := info_parts Try.info5
  have HO : Hid (ReAt w br gt ct gs gz n gb cb o dn) := h
  have HX : Hid (∀ y ∈ o.x, y < 94) := hx
  have HCE : Hid (∀ wr, Fr (fun _ => False) w wr → wr.cell? ⟨br, 1, none⟩ = some (.slice (some ⟨gs, 0, none⟩) n n) ∧ wr.cell? ⟨br, 2, none⟩ = some (.slice (some ⟨gz, 0, none⟩) n n) ∧ ∀ k, k < n → wr.cell? ⟨gs, k, none⟩ = some (.int .i64 ((o.x.getD k 0 / 2 : Nat) : Int)) ∧ wr.cell? ⟨gz, k, none⟩ = some (.int .i64 ((o.x.getD k 0 % 2 : Nat) : Int))) := by
    intro wr f
    have hr := HO.out.kept f (fun hh => hh) (fun hh => hh) (fun hh => hh) (fun hh => hh) (fun hh => hh)
    obtain ⟨_, e1, e2, _⟩ := cell_of_nine hr.blk
    refine ⟨e1, e2, fun k hk => ⟨?_, ?_⟩⟩
    · rw [hr.st.cellAt k (by omega), intCells_getD _ k (by rw [List.length_map, hr.len]; exact hk)]
      congr 3
      rw [List.getD_eq_getElem?_getD, List.getD_eq_getElem?_getD, List.getElem?_map]
      cases o.x[k]? <;> rfl
    · rw [hr.bt.cellAt k (by omega), intCells_getD _ k (by rw [List.length_map, hr.len]; exact hk)]
      congr 3
      rw [List.getD_eq_getElem?_getD, List.getD_eq_getElem?_getD, List.getElem?_map]
      cases o.x[k]? <;> rfl
  clear h hx
  go_enter Try.func33, Try.ntmps33
  go_wp2_with fail
  go_loopw [3, 4] (fun v i wr => ∃ k : Nat, k ≤ n ∧ i = .int .i64 k ∧ wr.ownsRow 0 5 1 v k (byteCells (o.x.take k)) ∧ Fr (fun _ => False) w wr ∧ ∀ g, v.ownBlock = some g → w.heap.size ≤ g) (fun _ i _ => n - (intOf i).toNat)
  case atStart => exact ⟨0, Nat.zero_le _, rfl, ⟨rfl, Or.inl ⟨rfl, rfl⟩⟩, Fr.refl _ _, fun g hg => by simp [Value.ownBlock] at hg⟩
  case round =>
    obtain ⟨k, hk, rfl, hown, hfr, hg⟩ := hrel
    obtain ⟨ao, cp, rfl⟩ := row_slice hown
    obtain ⟨e1, e2, hce⟩ := HCE.out wr hfr
    have HW : Hid (wr.ownsRow 0 5 1 (.slice ao k cp) k (byteCells (o.x.take k))) := hown
    have HF : Hid (Fr (fun _ => False) w wr) := hfr
    have HG : Hid (∀ g, (Value.slice ao k cp).ownBlock = some g → w.heap.size ≤ g) := hg
    clear hown hfr hg
    by_cases hlt : k < n
    · obtain ⟨c1, c2⟩ := hce k hlt
      obtain ⟨y, HY⟩ : ∃ y, Hid (y = o.x.getD k 0) := ⟨_, rfl⟩
      have hy : y < 94 := by rw [HY.out]; exact getD_lt HX.out k
      rw [← HY.out] at c1 c2
      obtain ⟨s, Hs⟩ : ∃ s, Hid (s = y / 2) := ⟨_, rfl⟩
      obtain ⟨z, Hz⟩ : ∃ z, Hid (z = y % 2) := ⟨_, rfl⟩
      rw [← Hs.out] at c1
      rw [← Hz.out] at c2
      have hw1 : IntKind.i64.wrap (2 * (s : Int)) = 2 * (s : Int) := by rw [IntKind.wrap_i64, Hs.out]; omega
      have hw2 : IntKind.i64.wrap (2 * (s : Int) + (z : Int)) = (y : Int) := by rw [IntKind.wrap_i64, Hs.out, Hz.out]; omega
      have hw3 : IntKind.u8.wrap (y : Int) = (y : Int) := by rw [IntKind.wrap_u8']; omega
      have hs47 : s < 47 := by rw [Hs.out]; omega
      have hz2' : z < 2 := by rw [Hz.out]; omega
      have hbr : br < wr.heap.size := World.block_lt_of_cell? wr ⟨br, 1, none⟩ e1
      have HKK : Hid (∀ w', Fr (fun j => (Value.slice ao k cp).ownBlock = some j) wr w' → w'.cell? ⟨br, 1, none⟩ = some (.slice (some ⟨gs, 0, none⟩) n n) ∧ w'.cell? ⟨br, 2, none⟩ = some (.slice (some ⟨gz, 0, none⟩) n n) ∧ w'.cell? ⟨gs, k, none⟩ = some (.int .i64 (s : Int)) ∧ w'.cell? ⟨gz, k, none⟩ = some (.int .i64 (z : Int))) := by
        intro w' f
        have a1 := World.block_lt_of_cell? w ⟨br, 1, none⟩ (cell_of_nine HO.out.blk).2.1
        have a2 := (HO.out.st.lt gs rfl).2
        have a3 := (HO.out.bt.lt gz rfl).2
        refine ⟨f.cell e1 (fun hh => ?_), f.cell e2 (fun hh => ?_), f.cell c1 (fun hh => ?_), f.cell c2 (fun hh => ?_)⟩
        · have := HG.out _ hh; simp at a1; omega
        · have := HG.out _ hh; simp at a1; omega
        · have := HG.out _ hh; omega
        · have := HG.out _ hh; omega
      clear hce
      go_wp2_with fail
      go_region_held_law (fun w' => w'.cell? ⟨br, 1, none⟩ = some (.slice (some ⟨gs, 0, none⟩) n n) ∧ w'.cell? ⟨br, 2, none⟩ = some (.slice (some ⟨gz, 0, none⟩) n n) ∧ w'.cell? ⟨gs, k, none⟩ = some (.int .i64 (s : Int)) ∧ w'.cell? ⟨gz, k, none⟩ = some (.int .i64 (z : Int))) (first | exact HKK.out _ ((Fr.refl _ _).drew) | exact HKK.out _ (((Fr.refl _ _).alloc _).drew) | exact HKK.out _ ((((Fr.refl _ _).alloc _).drew).grown hgrow (fun j hj _ => hj))) ((refine step_append_lies _ (by rfl) _ _ _ (by rfl) 0 5 i0 (.int .u8 0) 1 1 Try.underlying30 hi hz0 hz1 hz2 rfl (by decide) (.slice ao k cp) k _ (by rfl) (HW.out.alloc _) ⟨wr.heap.size, 0, none⟩ 1 1 [.int .u8 (y : Int)] (by rfl) rfl (cell_one_new wr _ 5) (by intro u hu; simp at hu; subst hu; rfl) (by decide) (by unfold maxLen; omega) (by omega) (Nat.zero_le _) (wr.heap.size + 1) (by simp) ?_; intro g' cap' w1 hown1 hgrow hat hlt1))
      have HO1 : Hid (w1.ownsRow 0 5 1 (.slice (some ⟨g', 0, none⟩) (k + 1) cap') (k + 1) (byteCells (o.x.take (k + 1)))) := by
        have hl : k < o.x.length := by rw [HO.out.len]; exact hlt
        have e : byteCells (o.x.take (k + 1)) = byteCells (o.x.take k) ++ [.int .u8 (y : Int)] := by
          rw [List.take_succ_eq_append_getElem hl, byteCells_append, HY.out, List.getD_eq_getElem?_getD, List.getElem?_eq_getElem hl]; rfl
        rw [e]; exact hown1
      have HF1 : Hid (Fr (fun _ => False) w w1) := ((HF.out.alloc _).drew).grown hgrow (fun j hj hlt => absurd hlt (by have := HG.out j hj; omega))
      have HG1 : Hid (w.heap.size ≤ g') := by
        have hz := HF.out.size
        rcases hat with e | e
        · exact HG.out g' e
        · show _ ≤ _; omega
      clear hown1 hgrow hat
      go_wp2_with fail
      refine ⟨⟨k + 1, by omega, congrArg (Value.int .i64) (by omega), HO1.out, HF1.out, fun g hg => ?_⟩, by simp [intOf]; omega⟩
      simp [Value.ownBlock] at hg; subst hg; exact HG1.out
    · have hkn : k = n := by omega
      subst hkn
      clear hce
      go_wp2_with fail
      go_ret
      refine ⟨_, rfl, ?_, HF.out, HG.out⟩
      have := HW.out
      rw [List.take_of_length_le (by have := HO.out.len; omega)] at this
      exact this

end Go.Proofs.Ytkggdnkmaldmlaa
