/- The reference's coder: a byte goes out. -/
import Derived.Deep.RegionLaw
import Derived.Deep.AppendLies
import Derived.Test.YtllhekkclhcdbaaDoorK4
namespace Go.Proofs.YtllhekkclhcdbaaDoor
open Go.RowKit

theorem band64 (c k : Nat) (h : c < 9223372036854775808) (hk : k < 63) : bits .and .i64 (c : Int) ((2 ^ k - 1 : Nat) : Int) = ((c % 2 ^ k : Nat) : Int) := by
  have hp : 2 ^ k ≤ 2 ^ 62 := Nat.pow_le_pow_right (by decide) (by omega)
  have e62 : (2 : Nat) ^ 62 = 4611686018427387904 := rfl
  show IntKind.i64.wrap ((BitVec.ofInt 64 (c : Int) &&& BitVec.ofInt 64 ((2 ^ k - 1 : Nat) : Int)).toNat : Int) = _
  rw [BitVec.toNat_and, BitVec.ofInt_natCast, BitVec.ofInt_natCast, BitVec.toNat_ofNat, BitVec.toNat_ofNat, Nat.mod_eq_of_lt (a := c) (by omega), Nat.mod_eq_of_lt (a := 2 ^ k - 1) (by omega), Nat.and_two_pow_sub_one_eq_mod, IntKind.wrap_i64]
  have : c % 2 ^ k < 2 ^ k := Nat.mod_lt _ (Nat.two_pow_pos _)
  omega

/-- What a step of the reference's coder may touch. -/
structure RStep (br gs gz gb gb' : Nat) (w w' : World) : Prop where
  fr : Fr (fun k => k = br ∨ k = gs ∨ k = gz ∨ k = gb) w w'
  row : gb' = gb ∨ w.heap.size ≤ gb'
theorem RStep.of_fr {br gs gz gb : Nat} {w w' : World} (h : Fr (fun k => k = br ∨ k = gs ∨ k = gz ∨ k = gb) w w') : RStep br gs gz gb gb w w' := ⟨h, Or.inl rfl⟩
theorem RStep.trans {br gs gz gb gb1 gb2 : Nat} {w w1 w2 : World} (h : RStep br gs gz gb gb1 w w1) (k : RStep br gs gz gb1 gb2 w1 w2) : RStep br gs gz gb gb2 w w2 := by
  refine ⟨h.fr.trans k.fr ?_, ?_⟩
  · rintro i hi (e | e | e | e)
    · exact Or.inl e
    · exact Or.inr (Or.inl e)
    · exact Or.inr (Or.inr (Or.inl e))
    · rcases h.row with r | r
      · exact Or.inr (Or.inr (Or.inr (r ▸ e)))
      · omega
  · have hsz := h.fr.size
    rcases k.row with q | q
    · rcases h.row with r | r
      · exact Or.inl (q.trans r)
      · exact Or.inr (by omega)
    · exact Or.inr (by omega)

/-- A byte more. -/
theorem ReAt.appended {wX w1 : World} {br gt ct gs gz n gb cb g' cap' a c t l made v : Nat} {b x : List Nat} {ob : Obj} {d : Bool} (h : ReAt wX br gt ct gs gz n gb cb { s := { a := a, c := c, t := t, b := b, l := l }, x := x, made := made } d)
    (hg : (wX.alloc ob).drew.grownBy w1 (some gb)) (hown : w1.ownsRow 0 5 1 (.slice (some ⟨g', 0, none⟩) (b.length + 1 + 1) cap') (b.length + 1 + 1) (byteCells ({ a := a, c := c, t := t, b := b, l := l } : Cs).bytes ++ [.int .u8 (v : Int)])) (hat : gb = g' ∨ g' = wX.heap.size + 1) :
    ReAt (w1.setCell ⟨br, 7, none⟩ (.slice (some ⟨g', 0, none⟩) (b.length + 1 + 1) cap')) br gt ct gs gz n g' cap' { s := { a := a, c := c, t := t, b := b ++ [l], l := v }, x := x, made := made } d := by
  obtain ⟨n1, n2, n3, n4, n5, n6, n7, n8, n9⟩ := h.nes
  have f : Fr (fun k => k = gb) wX w1 := (((Fr.refl _ _).alloc _).drew).grown hg (fun k hk _ => by simp at hk; exact hk.symm)
  have hb := f.block br h.lt (Ne.symm n4)
  rw [h.blk] at hb
  have hlt := h.lt
  have hgb : g' ≠ br := by
    rcases hat with e | e
    · rw [← e]; exact n4
    · omega
  have f2 := Fr.set1 w1 br 7 (.slice (some ⟨g', 0, none⟩) (b.length + 1 + 1) cap')
  refine ⟨?_, row_kept1 (row_kept1 h.tab f (Ne.symm n7)) f2 n1, row_kept1 (row_kept1 h.st f (Ne.symm n8)) f2 n2, row_kept1 (row_kept1 h.bt f (Ne.symm n9)) f2 n3, ?_, h.ne, h.len⟩
  · rw [seven_set hb]; simp
  · have := row_kept1 hown f2 hgb
    simp only [List.length_append, List.length_cons, List.length_nil]
    have e : byteCells ({ a := a, c := c, t := t, b := b ++ [l], l := v } : Cs).bytes = byteCells ({ a := a, c := c, t := t, b := b, l := l } : Cs).bytes ++ [.int .u8 (v : Int)] := by simp [Cs.bytes, byteCells]
    rw [e]; exact this

set_option maxRecDepth 100000 in
set_option maxHeartbeats 2000000 in
theorem rout_carry (w : World) (br gt ct gs gz n gb cb : Nat) (o : Co) (dn : Bool) (h : ReAt w br gt ct gs gz n gb cb o dn) (hc : o.s.c < 268435456) (hl : o.s.l < 256) (hn : o.s.b.length ≤ 1000000000) (h1 : 134217728 ≤ o.s.c) (h2 : o.s.l < 254) :
    Calls Tryd.prog 52 #[.pointer (some ⟨br, 0, none⟩)] w fun e w' => e = .returned (.tuple #[]) ∧ ∃ gb' cb', ReAt w' br gt ct gs gz n gb' cb' { o with s := outP o.s } dn ∧ RStep br gs gz gb gb' w w' := by
  obtain ⟨e0, e1, e2, e3, e4, e5, e6, e7, e8, ef⟩ := cell_of_nine h.blk
  have el : w.cell? ⟨gb, o.s.b.length, none⟩ = some (.int .u8 (o.s.l : Int)) := by rw [h.bs.cellAt _ (by omega), byteCells_get]; simp [Cs.bytes]
  have efl := h.bs.frozenAt o.s.b.length
  have hne := h.nes.2.2.2.1
  have HO : Hid (ReAt w br gt ct gs gz n gb cb o dn) := h
  clear h
  obtain ⟨i0, hi, hz0, hz1, hz2⟩ := info_parts Tryd.info5
  obtain ⟨⟨a, c, t, b, l⟩, x, made⟩ := o
  simp only [] at *
  obtain ⟨nb, Hn⟩ : ∃ nb, Hid (nb = b.length) := ⟨_, rfl⟩
  rw [← Hn.out] at e7 el efl hn
  have hnot : ∀ (x : Bool) (w : World), (Op.unary .not (.bool x)).run Tryd.prog w = .ok (.bool (!x)) w := fun _ _ => rfl
  obtain ⟨C, HC⟩ : ∃ C, Hid (C = c % 134217728) := ⟨_, rfl⟩
  obtain ⟨v, HV⟩ : ∃ v, Hid (v = C / 524288 % 256) := ⟨_, rfl⟩
  obtain ⟨D, HD⟩ : ∃ D, Hid (D = C % 524288) := ⟨_, rfl⟩
  have hC : C < 268435456 := by rw [HC.out]; omega
  have hv : IntKind.u8.wrap ((C : Int) / 524288) = (v : Int) := by rw [HV.out]; exact u8_wrap_div C 524288
  have hD : bits BinOp.and IntKind.i64 (C : Int) 524287 = (D : Int) := by rw [HD.out]; exact band64 C 19 (by omega) (by decide)
  have hD2 : D < 268435456 := by rw [HD.out]; omega
  have hand0 : bits BinOp.and IntKind.i64 (c : Int) 134217727 = (C : Int) := by rw [HC.out]; exact band64 c 27 (by omega) (by decide)
  have hq3 : decide (134217728 ≤ (c : Int)) = true := decide_eq_true (by omega)
  have H1 : Hid (134217728 ≤ c) := h1
  clear h1
  have hq1 : ((l : Int) == 255) = false := by rw [beq_eq_false_iff_ne]; omega
  have hq2 : ((l : Int) + 1 == 255) = false := by rw [beq_eq_false_iff_ne]; omega
  go_enter Tryd.func52, Tryd.ntmps52
  go_wp2_with fail
  generalize hW : World.setCell _ ⟨br, 5, none⟩ _ = wX
  have HOUT : Hid (outP { a := a, c := c, t := t, b := b, l := l } = { a := a, c := D, t := 8, b := b ++ [l + 1], l := v }) := by
    rw [HD.out, HV.out, HC.out]
    exact outP_carry a c t b l H1.out (by omega)
  have HX : Hid (ReAt wX br gt ct gs gz n gb cb { s := { a := a, c := C, t := t, b := b, l := l + 1 }, x := x, made := made } dn) := by
    rw [← hW]
    rw [Hn.out]; exact ((HO.out.setL (l + 1)).setC C)
  have HF : Hid (Fr (fun k => k = br ∨ k = gs ∨ k = gz ∨ k = gb) w wX) := by
    rw [← hW]
    exact ((Fr.setCell ((Fr.setCell (Fr.refl _ _) (fun _ => Or.inr (Or.inr (Or.inr rfl))) _)) (fun _ => Or.inl rfl) _))
  clear hW e0 e1 e2 e3 e4 e5 e6 e7 e8 ef el efl
  obtain ⟨e0, e1, e2, e3, e4, e5, e6, e7, e8, ef⟩ := cell_of_nine HX.out.blk
  simp only [] at e0 e1 e2 e3 e4 e5 e6 e7 e8 ef
  rw [← Hn.out] at e7
  have HW : Hid (wX.ownsRow 0 5 1 (.slice (some ⟨gb, 0, none⟩) (nb + 1) cb) (nb + 1) (byteCells ({ a := a, c := C, t := t, b := b, l := l + 1 } : Cs).bytes)) := by
    have := HX.out.bs
    simp only [] at this
    rw [← Hn.out] at this
    exact this
  have hbx : br < wX.heap.size := HX.out.lt
  have KC : Hid (∀ (w1 : World), (wX.alloc (.cells #[.int .u8 (v : Int)] 5)).drew.grownBy w1 (some gb) → w1.cell? ⟨br, 7, none⟩ = some (.slice (some ⟨gb, 0, none⟩) (nb + 1) cb) ∧ w1.cell? ⟨br, 5, none⟩ = some (.int .i64 (C : Int)) ∧ w1.cell? ⟨br, 6, none⟩ = some (.int .i64 (t : Int)) ∧ w1.frozen? ⟨br, 7, none⟩ = false ∧ w1.frozen? ⟨br, 5, none⟩ = false ∧ w1.frozen? ⟨br, 6, none⟩ = false) := by
    intro w1 hgrow
    have f : Fr (fun k => k = gb) wX w1 := (((Fr.refl _ _).alloc _).drew).grown hgrow (fun k hk _ => by simp at hk; exact hk.symm)
    exact ⟨f.cell e7 (Ne.symm hne), f.cell e5 (Ne.symm hne), f.cell e6 (Ne.symm hne), f.frozen hbx (ef 7) (Ne.symm hne), f.frozen hbx (ef 5) (Ne.symm hne), f.frozen hbx (ef 6) (Ne.symm hne)⟩
  go_region_law ((refine step_append_lies _ (by rfl) _ _ _ (by rfl) 0 5 i0 (.int .u8 0) 1 1 Tryd.underlying24 hi hz0 hz1 hz2 rfl (by decide) (.slice (some ⟨gb, 0, none⟩) (nb + 1) cb) (nb + 1) _ (by rfl) (HW.out.alloc _) ⟨wX.heap.size, 0, none⟩ 1 1 [.int .u8 (v : Int)] (by rfl) rfl (cell_one_new wX _ 5) (by intro u hu; simp at hu; subst hu; rfl) (by decide) (by unfold maxLen; omega) (by omega) (Nat.zero_le _) (wX.heap.size + 1) (by simp) ?_; intro g' cap' w1 hown1 hgrow hat hlt; obtain ⟨k7, k5, k6, kf7, kf5, kf6⟩ := KC.out w1 hgrow; have HG : Hid ((wX.alloc (.cells #[.int .u8 (v : Int)] 5)).drew.grownBy w1 (some gb)) := hgrow; have HN1 : Hid (w1.ownsRow 0 5 1 (.slice (some ⟨g', 0, none⟩) (nb + 1 + 1) cap') (nb + 1 + 1) _) := hown1; have hat2 : gb = g' ∨ g' = wX.heap.size + 1 := (by simpa [Value.ownBlock] using hat); have HAT : Hid (gb = g' ∨ g' = wX.heap.size + 1) := hat2; clear hat2; clear hgrow hown1 hat))
  all_goals
    go_wp2_with fail
    go_end0
    have hx' : ReAt _ br gt ct gs gz n g' cap' _ dn := HX.out.appended (v := v) HG.out (by rw [← Hn.out]; exact HN1.out) HAT.out
    refine ⟨rfl, g', cap', ?_, ?_, ?_⟩
    · have hz := (hx'.setC D).setT 8
      rw [← Hn.out] at hz
      rw [HOUT.out]
      exact hz
    · exact Fr.setCell (Fr.setCell (Fr.setCell (Fr.grown (Fr.drew (Fr.alloc HF.out _)) HG.out (fun k hk _ => Or.inr (Or.inr (Or.inr (by simp at hk; exact hk.symm))))) (fun _ => Or.inl rfl) _) (fun _ => Or.inl rfl) _) (fun _ => Or.inl rfl) _
    · have := HF.out.size
      rcases HAT.out with e | e
      · exact Or.inl e.symm
      · exact Or.inr (by omega)

set_option maxRecDepth 100000 in
set_option maxHeartbeats 2000000 in
theorem rout_full (w : World) (br gt ct gs gz n gb cb : Nat) (o : Co) (dn : Bool) (h : ReAt w br gt ct gs gz n gb cb o dn) (hc : o.s.c < 268435456) (hl : o.s.l < 256) (hn : o.s.b.length ≤ 1000000000) (h1 : 134217728 ≤ o.s.c) (h2 : o.s.l = 254) :
    Calls Tryd.prog 52 #[.pointer (some ⟨br, 0, none⟩)] w fun e w' => e = .returned (.tuple #[]) ∧ ∃ gb' cb', ReAt w' br gt ct gs gz n gb' cb' { o with s := outP o.s } dn ∧ RStep br gs gz gb gb' w w' := by
  obtain ⟨e0, e1, e2, e3, e4, e5, e6, e7, e8, ef⟩ := cell_of_nine h.blk
  have el : w.cell? ⟨gb, o.s.b.length, none⟩ = some (.int .u8 (o.s.l : Int)) := by rw [h.bs.cellAt _ (by omega), byteCells_get]; simp [Cs.bytes]
  have efl := h.bs.frozenAt o.s.b.length
  have hne := h.nes.2.2.2.1
  have HO : Hid (ReAt w br gt ct gs gz n gb cb o dn) := h
  clear h
  obtain ⟨i0, hi, hz0, hz1, hz2⟩ := info_parts Tryd.info5
  obtain ⟨⟨a, c, t, b, l⟩, x, made⟩ := o
  simp only [] at *
  obtain ⟨nb, Hn⟩ : ∃ nb, Hid (nb = b.length) := ⟨_, rfl⟩
  rw [← Hn.out] at e7 el efl hn
  have hnot : ∀ (x : Bool) (w : World), (Op.unary .not (.bool x)).run Tryd.prog w = .ok (.bool (!x)) w := fun _ _ => rfl
  obtain ⟨C, HC⟩ : ∃ C, Hid (C = c % 134217728) := ⟨_, rfl⟩
  obtain ⟨v, HV⟩ : ∃ v, Hid (v = C / 1048576 % 256) := ⟨_, rfl⟩
  obtain ⟨D, HD⟩ : ∃ D, Hid (D = C % 1048576) := ⟨_, rfl⟩
  have hC : C < 268435456 := by rw [HC.out]; omega
  have hv : IntKind.u8.wrap ((C : Int) / 1048576) = (v : Int) := by rw [HV.out]; exact u8_wrap_div C 1048576
  have hD : bits BinOp.and IntKind.i64 (C : Int) 1048575 = (D : Int) := by rw [HD.out]; exact band64 C 20 (by omega) (by decide)
  have hD2 : D < 268435456 := by rw [HD.out]; omega
  subst h2
  have hand0 : bits BinOp.and IntKind.i64 (c : Int) 134217727 = (C : Int) := by rw [HC.out]; exact band64 c 27 (by omega) (by decide)
  have hq3 : decide (134217728 ≤ (c : Int)) = true := decide_eq_true (by omega)
  have H1 : Hid (134217728 ≤ c) := h1
  clear h1
  go_enter Tryd.func52, Tryd.ntmps52
  go_wp2_with fail
  generalize hW : World.setCell _ ⟨br, 5, none⟩ _ = wX
  have HOUT : Hid (outP { a := a, c := c, t := t, b := b, l := 254 } = { a := a, c := D, t := 7, b := b ++ [255], l := v }) := by
    rw [HD.out, HV.out, HC.out]
    exact outP_full a c t b H1.out
  have HX : Hid (ReAt wX br gt ct gs gz n gb cb { s := { a := a, c := C, t := t, b := b, l := 255 }, x := x, made := made } dn) := by
    rw [← hW]
    rw [Hn.out]; exact ((HO.out.setL 255).setC C)
  have HF : Hid (Fr (fun k => k = br ∨ k = gs ∨ k = gz ∨ k = gb) w wX) := by
    rw [← hW]
    exact ((Fr.setCell ((Fr.setCell (Fr.refl _ _) (fun _ => Or.inr (Or.inr (Or.inr rfl))) _)) (fun _ => Or.inl rfl) _))
  clear hW e0 e1 e2 e3 e4 e5 e6 e7 e8 ef el efl
  obtain ⟨e0, e1, e2, e3, e4, e5, e6, e7, e8, ef⟩ := cell_of_nine HX.out.blk
  simp only [] at e0 e1 e2 e3 e4 e5 e6 e7 e8 ef
  rw [← Hn.out] at e7
  have HW : Hid (wX.ownsRow 0 5 1 (.slice (some ⟨gb, 0, none⟩) (nb + 1) cb) (nb + 1) (byteCells ({ a := a, c := C, t := t, b := b, l := 255 } : Cs).bytes)) := by
    have := HX.out.bs
    simp only [] at this
    rw [← Hn.out] at this
    exact this
  have hbx : br < wX.heap.size := HX.out.lt
  have KC : Hid (∀ (w1 : World), (wX.alloc (.cells #[.int .u8 (v : Int)] 5)).drew.grownBy w1 (some gb) → w1.cell? ⟨br, 7, none⟩ = some (.slice (some ⟨gb, 0, none⟩) (nb + 1) cb) ∧ w1.cell? ⟨br, 5, none⟩ = some (.int .i64 (C : Int)) ∧ w1.cell? ⟨br, 6, none⟩ = some (.int .i64 (t : Int)) ∧ w1.frozen? ⟨br, 7, none⟩ = false ∧ w1.frozen? ⟨br, 5, none⟩ = false ∧ w1.frozen? ⟨br, 6, none⟩ = false) := by
    intro w1 hgrow
    have f : Fr (fun k => k = gb) wX w1 := (((Fr.refl _ _).alloc _).drew).grown hgrow (fun k hk _ => by simp at hk; exact hk.symm)
    exact ⟨f.cell e7 (Ne.symm hne), f.cell e5 (Ne.symm hne), f.cell e6 (Ne.symm hne), f.frozen hbx (ef 7) (Ne.symm hne), f.frozen hbx (ef 5) (Ne.symm hne), f.frozen hbx (ef 6) (Ne.symm hne)⟩
  go_region_law ((refine step_append_lies _ (by rfl) _ _ _ (by rfl) 0 5 i0 (.int .u8 0) 1 1 Tryd.underlying24 hi hz0 hz1 hz2 rfl (by decide) (.slice (some ⟨gb, 0, none⟩) (nb + 1) cb) (nb + 1) _ (by rfl) (HW.out.alloc _) ⟨wX.heap.size, 0, none⟩ 1 1 [.int .u8 (v : Int)] (by rfl) rfl (cell_one_new wX _ 5) (by intro u hu; simp at hu; subst hu; rfl) (by decide) (by unfold maxLen; omega) (by omega) (Nat.zero_le _) (wX.heap.size + 1) (by simp) ?_; intro g' cap' w1 hown1 hgrow hat hlt; obtain ⟨k7, k5, k6, kf7, kf5, kf6⟩ := KC.out w1 hgrow; have HG : Hid ((wX.alloc (.cells #[.int .u8 (v : Int)] 5)).drew.grownBy w1 (some gb)) := hgrow; have HN1 : Hid (w1.ownsRow 0 5 1 (.slice (some ⟨g', 0, none⟩) (nb + 1 + 1) cap') (nb + 1 + 1) _) := hown1; have hat2 : gb = g' ∨ g' = wX.heap.size + 1 := (by simpa [Value.ownBlock] using hat); have HAT : Hid (gb = g' ∨ g' = wX.heap.size + 1) := hat2; clear hat2; clear hgrow hown1 hat))
  all_goals
    go_wp2_with fail
    go_end0
    have hx' : ReAt _ br gt ct gs gz n g' cap' _ dn := HX.out.appended (v := v) HG.out (by rw [← Hn.out]; exact HN1.out) HAT.out
    refine ⟨rfl, g', cap', ?_, ?_, ?_⟩
    · have hz := (hx'.setC D).setT 7
      rw [← Hn.out] at hz
      rw [HOUT.out]
      exact hz
    · exact Fr.setCell (Fr.setCell (Fr.setCell (Fr.grown (Fr.drew (Fr.alloc HF.out _)) HG.out (fun k hk _ => Or.inr (Or.inr (Or.inr (by simp at hk; exact hk.symm))))) (fun _ => Or.inl rfl) _) (fun _ => Or.inl rfl) _) (fun _ => Or.inl rfl) _
    · have := HF.out.size
      rcases HAT.out with e | e
      · exact Or.inl e.symm
      · exact Or.inr (by omega)

set_option maxRecDepth 100000 in
set_option maxHeartbeats 2000000 in
theorem rout_long (w : World) (br gt ct gs gz n gb cb : Nat) (o : Co) (dn : Bool) (h : ReAt w br gt ct gs gz n gb cb o dn) (hc : o.s.c < 268435456) (hl : o.s.l < 256) (hn : o.s.b.length ≤ 1000000000) (h1 : o.s.c < 134217728) (h2 : o.s.l < 255) :
    Calls Tryd.prog 52 #[.pointer (some ⟨br, 0, none⟩)] w fun e w' => e = .returned (.tuple #[]) ∧ ∃ gb' cb', ReAt w' br gt ct gs gz n gb' cb' { o with s := outP o.s } dn ∧ RStep br gs gz gb gb' w w' := by
  obtain ⟨e0, e1, e2, e3, e4, e5, e6, e7, e8, ef⟩ := cell_of_nine h.blk
  have el : w.cell? ⟨gb, o.s.b.length, none⟩ = some (.int .u8 (o.s.l : Int)) := by rw [h.bs.cellAt _ (by omega), byteCells_get]; simp [Cs.bytes]
  have efl := h.bs.frozenAt o.s.b.length
  have hne := h.nes.2.2.2.1
  have HO : Hid (ReAt w br gt ct gs gz n gb cb o dn) := h
  clear h
  obtain ⟨i0, hi, hz0, hz1, hz2⟩ := info_parts Tryd.info5
  obtain ⟨⟨a, c, t, b, l⟩, x, made⟩ := o
  simp only [] at *
  obtain ⟨nb, Hn⟩ : ∃ nb, Hid (nb = b.length) := ⟨_, rfl⟩
  rw [← Hn.out] at e7 el efl hn
  have hnot : ∀ (x : Bool) (w : World), (Op.unary .not (.bool x)).run Tryd.prog w = .ok (.bool (!x)) w := fun _ _ => rfl
  obtain ⟨C, HC⟩ : ∃ C, Hid (C = c) := ⟨_, rfl⟩
  obtain ⟨v, HV⟩ : ∃ v, Hid (v = C / 524288 % 256) := ⟨_, rfl⟩
  obtain ⟨D, HD⟩ : ∃ D, Hid (D = C % 524288) := ⟨_, rfl⟩
  have hC : C < 268435456 := by rw [HC.out]; omega
  have hv : IntKind.u8.wrap ((C : Int) / 524288) = (v : Int) := by rw [HV.out]; exact u8_wrap_div C 524288
  have hD : bits BinOp.and IntKind.i64 (C : Int) 524287 = (D : Int) := by rw [HD.out]; exact band64 C 19 (by omega) (by decide)
  have hD2 : D < 268435456 := by rw [HD.out]; omega
  have hq1 : ((l : Int) == 255) = false := by rw [beq_eq_false_iff_ne]; omega
  have hq3 : decide (134217728 ≤ (c : Int)) = false := decide_eq_false (by omega)
  go_enter Tryd.func52, Tryd.ntmps52
  go_wp2_with fail
  obtain ⟨wX, hW⟩ : ∃ wX, w = wX := ⟨_, rfl⟩
  rw [hW]
  have HOUT : Hid (outP { a := a, c := c, t := t, b := b, l := l } = { a := a, c := D, t := 8, b := b ++ [l], l := v }) := by
    rw [HD.out, HV.out, HC.out]
    exact outP_long a c t b l h1 h2
  have HX : Hid (ReAt wX br gt ct gs gz n gb cb { s := { a := a, c := C, t := t, b := b, l := l }, x := x, made := made } dn) := by
    rw [← hW, HC.out]
    exact (HO.out)
  have HF : Hid (Fr (fun k => k = br ∨ k = gs ∨ k = gz ∨ k = gb) w wX) := by
    rw [← hW]
    exact (Fr.refl _ _)
  clear hW e0 e1 e2 e3 e4 e5 e6 e7 e8 ef el efl
  obtain ⟨e0, e1, e2, e3, e4, e5, e6, e7, e8, ef⟩ := cell_of_nine HX.out.blk
  simp only [] at e0 e1 e2 e3 e4 e5 e6 e7 e8 ef
  rw [← Hn.out] at e7
  have HW : Hid (wX.ownsRow 0 5 1 (.slice (some ⟨gb, 0, none⟩) (nb + 1) cb) (nb + 1) (byteCells ({ a := a, c := C, t := t, b := b, l := l } : Cs).bytes)) := by
    have := HX.out.bs
    simp only [] at this
    rw [← Hn.out] at this
    exact this
  have hbx : br < wX.heap.size := HX.out.lt
  have KC : Hid (∀ (w1 : World), (wX.alloc (.cells #[.int .u8 (v : Int)] 5)).drew.grownBy w1 (some gb) → w1.cell? ⟨br, 7, none⟩ = some (.slice (some ⟨gb, 0, none⟩) (nb + 1) cb) ∧ w1.cell? ⟨br, 5, none⟩ = some (.int .i64 (C : Int)) ∧ w1.cell? ⟨br, 6, none⟩ = some (.int .i64 (t : Int)) ∧ w1.frozen? ⟨br, 7, none⟩ = false ∧ w1.frozen? ⟨br, 5, none⟩ = false ∧ w1.frozen? ⟨br, 6, none⟩ = false) := by
    intro w1 hgrow
    have f : Fr (fun k => k = gb) wX w1 := (((Fr.refl _ _).alloc _).drew).grown hgrow (fun k hk _ => by simp at hk; exact hk.symm)
    exact ⟨f.cell e7 (Ne.symm hne), f.cell e5 (Ne.symm hne), f.cell e6 (Ne.symm hne), f.frozen hbx (ef 7) (Ne.symm hne), f.frozen hbx (ef 5) (Ne.symm hne), f.frozen hbx (ef 6) (Ne.symm hne)⟩
  go_region_law ((refine step_append_lies _ (by rfl) _ _ _ (by rfl) 0 5 i0 (.int .u8 0) 1 1 Tryd.underlying24 hi hz0 hz1 hz2 rfl (by decide) (.slice (some ⟨gb, 0, none⟩) (nb + 1) cb) (nb + 1) _ (by rfl) (HW.out.alloc _) ⟨wX.heap.size, 0, none⟩ 1 1 [.int .u8 (v : Int)] (by rfl) rfl (cell_one_new wX _ 5) (by intro u hu; simp at hu; subst hu; rfl) (by decide) (by unfold maxLen; omega) (by omega) (Nat.zero_le _) (wX.heap.size + 1) (by simp) ?_; intro g' cap' w1 hown1 hgrow hat hlt; obtain ⟨k7, k5, k6, kf7, kf5, kf6⟩ := KC.out w1 hgrow; have HG : Hid ((wX.alloc (.cells #[.int .u8 (v : Int)] 5)).drew.grownBy w1 (some gb)) := hgrow; have HN1 : Hid (w1.ownsRow 0 5 1 (.slice (some ⟨g', 0, none⟩) (nb + 1 + 1) cap') (nb + 1 + 1) _) := hown1; have hat2 : gb = g' ∨ g' = wX.heap.size + 1 := (by simpa [Value.ownBlock] using hat); have HAT : Hid (gb = g' ∨ g' = wX.heap.size + 1) := hat2; clear hat2; clear hgrow hown1 hat))
  all_goals
    go_wp2_with fail
    go_end0
    have hx' : ReAt _ br gt ct gs gz n g' cap' _ dn := HX.out.appended (v := v) HG.out (by rw [← Hn.out]; exact HN1.out) HAT.out
    refine ⟨rfl, g', cap', ?_, ?_, ?_⟩
    · have hz := (hx'.setC D).setT 8
      rw [← Hn.out] at hz
      rw [HOUT.out]
      exact hz
    · exact Fr.setCell (Fr.setCell (Fr.setCell (Fr.grown (Fr.drew (Fr.alloc HF.out _)) HG.out (fun k hk _ => Or.inr (Or.inr (Or.inr (by simp at hk; exact hk.symm))))) (fun _ => Or.inl rfl) _) (fun _ => Or.inl rfl) _) (fun _ => Or.inl rfl) _
    · have := HF.out.size
      rcases HAT.out with e | e
      · exact Or.inl e.symm
      · exact Or.inr (by omega)

set_option maxRecDepth 100000 in
set_option maxHeartbeats 2000000 in
theorem rout_short (w : World) (br gt ct gs gz n gb cb : Nat) (o : Co) (dn : Bool) (h : ReAt w br gt ct gs gz n gb cb o dn) (hc : o.s.c < 268435456) (hl : o.s.l < 256) (hn : o.s.b.length ≤ 1000000000) (h2 : o.s.l = 255) :
    Calls Tryd.prog 52 #[.pointer (some ⟨br, 0, none⟩)] w fun e w' => e = .returned (.tuple #[]) ∧ ∃ gb' cb', ReAt w' br gt ct gs gz n gb' cb' { o with s := outP o.s } dn ∧ RStep br gs gz gb gb' w w' := by
  obtain ⟨e0, e1, e2, e3, e4, e5, e6, e7, e8, ef⟩ := cell_of_nine h.blk
  have el : w.cell? ⟨gb, o.s.b.length, none⟩ = some (.int .u8 (o.s.l : Int)) := by rw [h.bs.cellAt _ (by omega), byteCells_get]; simp [Cs.bytes]
  have efl := h.bs.frozenAt o.s.b.length
  have hne := h.nes.2.2.2.1
  have HO : Hid (ReAt w br gt ct gs gz n gb cb o dn) := h
  clear h
  obtain ⟨i0, hi, hz0, hz1, hz2⟩ := info_parts Tryd.info5
  obtain ⟨⟨a, c, t, b, l⟩, x, made⟩ := o
  simp only [] at *
  obtain ⟨nb, Hn⟩ : ∃ nb, Hid (nb = b.length) := ⟨_, rfl⟩
  rw [← Hn.out] at e7 el efl hn
  have hnot : ∀ (x : Bool) (w : World), (Op.unary .not (.bool x)).run Tryd.prog w = .ok (.bool (!x)) w := fun _ _ => rfl
  obtain ⟨C, HC⟩ : ∃ C, Hid (C = c) := ⟨_, rfl⟩
  obtain ⟨v, HV⟩ : ∃ v, Hid (v = C / 1048576 % 256) := ⟨_, rfl⟩
  obtain ⟨D, HD⟩ : ∃ D, Hid (D = C % 1048576) := ⟨_, rfl⟩
  have hC : C < 268435456 := by rw [HC.out]; omega
  have hv : IntKind.u8.wrap ((C : Int) / 1048576) = (v : Int) := by rw [HV.out]; exact u8_wrap_div C 1048576
  have hD : bits BinOp.and IntKind.i64 (C : Int) 1048575 = (D : Int) := by rw [HD.out]; exact band64 C 20 (by omega) (by decide)
  have hD2 : D < 268435456 := by rw [HD.out]; omega
  subst h2
  go_enter Tryd.func52, Tryd.ntmps52
  go_wp2_with fail
  obtain ⟨wX, hW⟩ : ∃ wX, w = wX := ⟨_, rfl⟩
  rw [hW]
  have HOUT : Hid (outP { a := a, c := c, t := t, b := b, l := 255 } = { a := a, c := D, t := 7, b := b ++ [255], l := v }) := by
    rw [HD.out, HV.out, HC.out]
    exact outP_short a c t b
  have HX : Hid (ReAt wX br gt ct gs gz n gb cb { s := { a := a, c := C, t := t, b := b, l := 255 }, x := x, made := made } dn) := by
    rw [← hW, HC.out]
    exact (HO.out)
  have HF : Hid (Fr (fun k => k = br ∨ k = gs ∨ k = gz ∨ k = gb) w wX) := by
    rw [← hW]
    exact (Fr.refl _ _)
  clear hW e0 e1 e2 e3 e4 e5 e6 e7 e8 ef el efl
  obtain ⟨e0, e1, e2, e3, e4, e5, e6, e7, e8, ef⟩ := cell_of_nine HX.out.blk
  simp only [] at e0 e1 e2 e3 e4 e5 e6 e7 e8 ef
  rw [← Hn.out] at e7
  have HW : Hid (wX.ownsRow 0 5 1 (.slice (some ⟨gb, 0, none⟩) (nb + 1) cb) (nb + 1) (byteCells ({ a := a, c := C, t := t, b := b, l := 255 } : Cs).bytes)) := by
    have := HX.out.bs
    simp only [] at this
    rw [← Hn.out] at this
    exact this
  have hbx : br < wX.heap.size := HX.out.lt
  have KC : Hid (∀ (w1 : World), (wX.alloc (.cells #[.int .u8 (v : Int)] 5)).drew.grownBy w1 (some gb) → w1.cell? ⟨br, 7, none⟩ = some (.slice (some ⟨gb, 0, none⟩) (nb + 1) cb) ∧ w1.cell? ⟨br, 5, none⟩ = some (.int .i64 (C : Int)) ∧ w1.cell? ⟨br, 6, none⟩ = some (.int .i64 (t : Int)) ∧ w1.frozen? ⟨br, 7, none⟩ = false ∧ w1.frozen? ⟨br, 5, none⟩ = false ∧ w1.frozen? ⟨br, 6, none⟩ = false) := by
    intro w1 hgrow
    have f : Fr (fun k => k = gb) wX w1 := (((Fr.refl _ _).alloc _).drew).grown hgrow (fun k hk _ => by simp at hk; exact hk.symm)
    exact ⟨f.cell e7 (Ne.symm hne), f.cell e5 (Ne.symm hne), f.cell e6 (Ne.symm hne), f.frozen hbx (ef 7) (Ne.symm hne), f.frozen hbx (ef 5) (Ne.symm hne), f.frozen hbx (ef 6) (Ne.symm hne)⟩
  go_region_law ((refine step_append_lies _ (by rfl) _ _ _ (by rfl) 0 5 i0 (.int .u8 0) 1 1 Tryd.underlying24 hi hz0 hz1 hz2 rfl (by decide) (.slice (some ⟨gb, 0, none⟩) (nb + 1) cb) (nb + 1) _ (by rfl) (HW.out.alloc _) ⟨wX.heap.size, 0, none⟩ 1 1 [.int .u8 (v : Int)] (by rfl) rfl (cell_one_new wX _ 5) (by intro u hu; simp at hu; subst hu; rfl) (by decide) (by unfold maxLen; omega) (by omega) (Nat.zero_le _) (wX.heap.size + 1) (by simp) ?_; intro g' cap' w1 hown1 hgrow hat hlt; obtain ⟨k7, k5, k6, kf7, kf5, kf6⟩ := KC.out w1 hgrow; have HG : Hid ((wX.alloc (.cells #[.int .u8 (v : Int)] 5)).drew.grownBy w1 (some gb)) := hgrow; have HN1 : Hid (w1.ownsRow 0 5 1 (.slice (some ⟨g', 0, none⟩) (nb + 1 + 1) cap') (nb + 1 + 1) _) := hown1; have hat2 : gb = g' ∨ g' = wX.heap.size + 1 := (by simpa [Value.ownBlock] using hat); have HAT : Hid (gb = g' ∨ g' = wX.heap.size + 1) := hat2; clear hat2; clear hgrow hown1 hat))
  all_goals
    go_wp2_with fail
    go_end0
    have hx' : ReAt _ br gt ct gs gz n g' cap' _ dn := HX.out.appended (v := v) HG.out (by rw [← Hn.out]; exact HN1.out) HAT.out
    refine ⟨rfl, g', cap', ?_, ?_, ?_⟩
    · have hz := (hx'.setC D).setT 7
      rw [← Hn.out] at hz
      rw [HOUT.out]
      exact hz
    · exact Fr.setCell (Fr.setCell (Fr.setCell (Fr.grown (Fr.drew (Fr.alloc HF.out _)) HG.out (fun k hk _ => Or.inr (Or.inr (Or.inr (by simp at hk; exact hk.symm))))) (fun _ => Or.inl rfl) _) (fun _ => Or.inl rfl) _) (fun _ => Or.inl rfl) _
    · have := HF.out.size
      rcases HAT.out with e | e
      · exact Or.inl e.symm
      · exact Or.inr (by omega)

/-- A byte goes out. -/
theorem rout_any (w : World) (br gt ct gs gz n gb cb : Nat) (o : Co) (dn : Bool) (h : ReAt w br gt ct gs gz n gb cb o dn) (hc : o.s.c < 268435456) (hl : o.s.l < 256) (hn : o.s.b.length ≤ 1000000000) :
    Calls Tryd.prog 52 #[.pointer (some ⟨br, 0, none⟩)] w fun e w' => e = .returned (.tuple #[]) ∧ ∃ gb' cb', ReAt w' br gt ct gs gz n gb' cb' { o with s := outP o.s } dn ∧ RStep br gs gz gb gb' w w' := by
  by_cases h2 : o.s.l = 255
  · exact rout_short w br gt ct gs gz n gb cb o dn h hc hl hn h2
  · by_cases h1 : 134217728 ≤ o.s.c
    · by_cases h3 : o.s.l = 254
      · exact rout_full w br gt ct gs gz n gb cb o dn h hc hl hn h1 h3
      · exact rout_carry w br gt ct gs gz n gb cb o dn h hc hl hn h1 (by omega)
    · exact rout_long w br gt ct gs gz n gb cb o dn h hc hl hn (by omega) (by omega)

end Go.Proofs.YtllhekkclhcdbaaDoor
