/- A byte goes out. -/
import Derived.Test.YtkggdnkmaldmlabK8
import Derived.Deep.RegionLaw
import Derived.Deep.AppendLies
namespace Go.Proofs.Ytkggdnkmaldmlab
open Go.RowKit

theorem Try.info5 : (Try.prog.info? 5).map (fun i => (i.zero, i.size, i.bytes)) = some (some (.int .u8 0), 1, 1) := by kernel_rfl

theorem u8_wrap_div (c p : Nat) : IntKind.u8.wrap ((c : Int) / (p : Int)) = ((c / p % 256 : Nat) : Int) := by
  rw [show ((c : Int) / (p : Int)) = ((c / p : Nat) : Int) from rfl]
  simp [IntKind.wrap, IntKind.bits, IntKind.signed]

theorem keep_out {w w' : World} {S : Nat → Prop} {bc : Nat} {v3 : Value} (h3 : w.cell? ⟨bc, 3, none⟩ = some v3) (hf : w.frozen? ⟨bc, 5, none⟩ = false) (f : Fr S w w') (hs : ¬ S bc) :
    w'.cell? ⟨bc, 3, none⟩ = some v3 ∧ w'.frozen? ⟨bc, 5, none⟩ = false :=
  ⟨f.cell h3 hs, f.frozen (World.block_lt_of_cell? w ⟨bc, 3, none⟩ h3) hf hs⟩

theorem band (c k : Nat) (h : c < 4294967296) (hk : 2 ^ k < 4294967296) : bits .and .u32 (c : Int) ((2 ^ k - 1 : Nat) : Int) = ((c % 2 ^ k : Nat) : Int) := by
  rw [u32_and_nat c (2 ^ k - 1) h (by omega), Nat.and_two_pow_sub_one_eq_mod]

theorem outP_carry (a c t : Nat) (b : List Nat) (l : Nat) (h1 : 134217728 ≤ c) (h2 : l < 254) : outP { a := a, c := c, t := t, b := b, l := l } = { a := a, c := c % 134217728 % 524288, t := 8, b := b ++ [l + 1], l := c % 134217728 / 524288 % 256 } := by
  simp only [outP, outC, outL, outLow, outT, if_pos (show 134217728 ≤ c ∧ l ≠ 255 by omega), if_neg (show ¬ (l + 1 = 255) by omega), Nat.reducePow]
theorem outP_full (a c t : Nat) (b : List Nat) (h1 : 134217728 ≤ c) : outP { a := a, c := c, t := t, b := b, l := 254 } = { a := a, c := c % 134217728 % 1048576, t := 7, b := b ++ [255], l := c % 134217728 / 1048576 % 256 } := by
  simp [outP, outC, outL, outLow, outT, h1]
theorem outP_long (a c t : Nat) (b : List Nat) (l : Nat) (h1 : c < 134217728) (h2 : l < 255) : outP { a := a, c := c, t := t, b := b, l := l } = { a := a, c := c % 524288, t := 8, b := b ++ [l], l := c / 524288 % 256 } := by
  simp only [outP, outC, outL, outLow, outT, if_neg (show ¬ (134217728 ≤ c ∧ l ≠ 255) by omega), if_neg (show ¬ (l = 255) by omega), Nat.reducePow]
theorem outP_short (a c t : Nat) (b : List Nat) : outP { a := a, c := c, t := t, b := b, l := 255 } = { a := a, c := c % 1048576, t := 7, b := b ++ [255], l := c / 1048576 % 256 } := by
  simp [outP, outC, outL, outLow, outT]

/-- A byte more. -/
theorem CoAt.appended {wX w1 : World} {bc gc cc gb cb g' cap' a c t l made v : Nat} {b x : List Nat} {ob : Obj} (h : CoAt wX bc gc cc gb cb { s := { a := a, c := c, t := t, b := b, l := l }, x := x, made := made })
    (hg : (wX.alloc ob).drew.grownBy w1 (some gb)) (hown : w1.ownsRow 0 5 1 (.slice (some ⟨g', 0, none⟩) (b.length + 1 + 1) cap') (b.length + 1 + 1) (byteCells ({ a := a, c := c, t := t, b := b, l := l } : Cs).bytes ++ [.int .u8 (v : Int)])) (hat : gb = g' ∨ g' = wX.heap.size + 1) :
    CoAt (w1.setCell ⟨bc, 5, none⟩ (.slice (some ⟨g', 0, none⟩) (b.length + 1 + 1) cap')) bc gc cc g' cap' { s := { a := a, c := c, t := t, b := b ++ [l], l := v }, x := x, made := made } := by
  have f : Fr (fun k => k = gb) wX w1 := (((Fr.refl _ _).alloc _).drew).grown hg (fun k hk _ => by simp at hk; exact hk.symm)
  have hb := f.block bc h.lt (Ne.symm h.neb)
  rw [h.blk] at hb
  have hlt := h.lt
  have hgb : g' ≠ bc := by
    rcases hat with e | e
    · rw [← e]; exact h.neb
    · omega
  have f2 := Fr.set1 w1 bc 5 (.slice (some ⟨g', 0, none⟩) (b.length + 1 + 1) cap')
  refine ⟨?_, row_kept1 (row_kept1 h.xs f (Ne.symm h.nexb)) f2 h.nex, ?_⟩
  · rw [seven_set hb]; simp
  · have := row_kept1 hown f2 hgb
    simp only [List.length_append, List.length_cons, List.length_nil]
    have e : byteCells ({ a := a, c := c, t := t, b := b ++ [l], l := v } : Cs).bytes = byteCells ({ a := a, c := c, t := t, b := b, l := l } : Cs).bytes ++ [.int .u8 (v : Int)] := by simp [Cs.bytes, byteCells]
    rw [e]; exact this

theorem cell_one_new (w : World) (a : Value) (t : TypeId) (j : Nat) (u : Value) (h : [a][j]? = some u) : (w.alloc (.cells #[a] t)).cell? ((⟨w.heap.size, 0, none⟩ : Addr).add j) = some u :=
  (World.ownsRow_lit (base := 0) (e := t) (size := 1) w #[a] 1 (Nat.zero_le _) (by decide) rfl).cells rfl j u h

set_option maxRecDepth 100000 in
set_option maxHeartbeats 2000000 in
theorem out_carry (w : World) (bc gc cc gb cb : Nat) (o : Co) (h : CoAt w bc gc cc gb cb o) (hc : o.s.c < 268435456) (hl : o.s.l < 256) (hn : o.s.b.length ≤ 1000000000) (h1 : 134217728 ≤ o.s.c) (h2 : o.s.l < 254) :
    Calls Try.prog 33 #[.pointer (some ⟨bc, 0, none⟩)] w fun e w' => e = .returned (.tuple #[]) ∧ ∃ gb' cb', CoAt w' bc gc cc gb' cb' { o with s := outP o.s } ∧ CStep bc gc gb gb' w w' := by
  obtain ⟨e0, e1, e2, e3, e4, e5, e6, ef⟩ := cell_of_seven h.blk
  have el := h.last
  have efl := h.bs.frozenAt o.s.b.length
  have hne := h.neb
  have HO : Hid (CoAt w bc gc cc gb cb o) := h
  clear h
  obtain ⟨i0, hi, hz0, hz1, hz2⟩ := info_parts Try.info5
  obtain ⟨⟨a, c, t, b, l⟩, x, made⟩ := o
  simp only [] at *
  obtain ⟨n, Hn⟩ : ∃ n, Hid (n = b.length) := ⟨_, rfl⟩
  rw [← Hn.out] at e5 el efl hn
  go_enter Try.func33, Try.ntmps33
  go_wp2_with fail
  go_region
  go_wp2_with fail
  generalize hW : World.drew _ = wX
  obtain ⟨C, HC⟩ : ∃ C, Hid (C = c % 134217728) := ⟨_, rfl⟩
  obtain ⟨v, HV⟩ : ∃ v, Hid (v = C / 524288 % 256) := ⟨_, rfl⟩
  obtain ⟨D, HD⟩ : ∃ D, Hid (D = C % 524288) := ⟨_, rfl⟩
  have HOUT : Hid (outP { a := a, c := c, t := t, b := b, l := l } = { a := a, c := D, t := 8, b := b ++ [l + 1], l := v }) := by
    rw [HD.out, HV.out, HC.out]
    exact outP_carry a c t b l h1 (by omega)
  have hC : C < 268435456 := by rw [HC.out]; omega
  have hv : IntKind.u8.wrap ((C : Int) / 524288) = (v : Int) := by rw [HV.out]; exact u8_wrap_div C 524288
  have hD : bits BinOp.and IntKind.u32 (C : Int) 524287 = (D : Int) := by rw [HD.out]; exact band C 19 (by omega) (by decide)
  have hD2 : D < 4294967296 := by rw [HD.out]; omega
  have HX : Hid (CoAt wX bc gc cc gb cb { s := { a := a, c := C, t := 8, b := b, l := l + 1 }, x := x, made := made }) := by
    rw [← hW]
    rw [Hn.out]; rw [HC.out]
    exact CoAt.drewN ((((HO.out.setL (l + 1)).setC (c % 134217728)).setT 7).setT 8) 1
  have HF : Hid (Fr (fun k => k = bc ∨ k = gc ∨ k = gb) w wX) := by
    rw [← hW]
    exact Fr.drew ((Fr.setCell ((Fr.setCell ((Fr.setCell ((Fr.setCell (Fr.refl _ _) (fun _ => Or.inr (Or.inr rfl)) _)) (fun _ => Or.inl rfl) _)) (fun _ => Or.inl rfl) _)) (fun _ => Or.inl rfl) _))
  clear hW e0 e1 e2 e3 e4 e5 e6 ef el efl
  obtain ⟨e0, e1, e2, e3, e4, e5, e6, ef⟩ := cell_of_seven HX.out.blk
  simp only [] at e0 e1 e2 e3 e4 e5 e6 ef
  rw [← Hn.out] at e5
  have HW : Hid (wX.ownsRow 0 5 1 (.slice (some ⟨gb, 0, none⟩) (n + 1) cb) (n + 1) (byteCells ({ a := a, c := C, t := 8, b := b, l := l + 1 } : Cs).bytes)) := by
    have := HX.out.bs
    simp only [] at this
    rw [← Hn.out] at this
    exact this
  have hbx : bc < wX.heap.size := HX.out.lt
  have KC : Hid (∀ (w1 : World), (wX.alloc (.cells #[.int .u8 (v : Int)] 5)).drew.grownBy w1 (some gb) → w1.cell? ⟨bc, 5, none⟩ = some (.slice (some ⟨gb, 0, none⟩) (n + 1) cb) ∧ w1.cell? ⟨bc, 3, none⟩ = some (.int .u32 (C : Int)) ∧ w1.frozen? ⟨bc, 5, none⟩ = false ∧ w1.frozen? ⟨bc, 3, none⟩ = false) := by
    intro w1 hgrow
    have f : Fr (fun k => k = gb) wX w1 := (((Fr.refl _ _).alloc _).drew).grown hgrow (fun k hk _ => by simp at hk; exact hk.symm)
    exact ⟨f.cell e5 (Ne.symm hne), f.cell e3 (Ne.symm hne), f.frozen hbx (ef 5) (Ne.symm hne), f.frozen hbx (ef 3) (Ne.symm hne)⟩
  go_region_law ((refine step_append_lies _ (by rfl) _ _ _ (by rfl) 0 5 i0 (.int .u8 0) 1 1 Try.underlying37 hi hz0 hz1 hz2 rfl (by decide) (.slice (some ⟨gb, 0, none⟩) (n + 1) cb) (n + 1) _ (by rfl) (HW.out.alloc _) ⟨wX.heap.size, 0, none⟩ 1 1 [.int .u8 (v : Int)] (by rfl) rfl (cell_one_new wX _ 5) (by intro u hu; simp at hu; subst hu; rfl) (by decide) (by unfold maxLen; omega) (by omega) (Nat.zero_le _) (wX.heap.size + 1) (by simp) ?_; intro g' cap' w1 hown1 hgrow hat hlt; obtain ⟨k5, k3, kf5, kf3⟩ := KC.out w1 hgrow; have HG : Hid ((wX.alloc (.cells #[.int .u8 (v : Int)] 5)).drew.grownBy w1 (some gb)) := hgrow; have HN1 : Hid (w1.ownsRow 0 5 1 (.slice (some ⟨g', 0, none⟩) (n + 1 + 1) cap') (n + 1 + 1) _) := hown1; have hat2 : gb = g' ∨ g' = wX.heap.size + 1 := (by simpa [Value.ownBlock] using hat); have HAT : Hid (gb = g' ∨ g' = wX.heap.size + 1) := hat2; clear hat2; clear hgrow hown1 hat))
  all_goals
    go_wp2_with fail
    go_region
    go_wp2_with fail
    go_end0
    have hx' : CoAt _ bc gc cc g' cap' _ := HX.out.appended (v := v) HG.out (by rw [← Hn.out]; exact HN1.out) HAT.out
    refine ⟨rfl, g', cap', ?_, ?_, ?_⟩
    · have hz := (hx'.setC D).drewN 1
      rw [← Hn.out] at hz
      rw [HOUT.out]
      exact hz
    · exact Fr.drew (Fr.setCell (Fr.setCell (Fr.grown (Fr.drew (Fr.alloc HF.out _)) HG.out (fun k hk _ => Or.inr (Or.inr (by simp at hk; exact hk.symm)))) (fun _ => Or.inl rfl) _) (fun _ => Or.inl rfl) _)
    · have := HF.out.size
      rcases HAT.out with e | e
      · exact Or.inl e.symm
      · exact Or.inr (by omega)

set_option maxRecDepth 100000 in
set_option maxHeartbeats 2000000 in
theorem out_full (w : World) (bc gc cc gb cb : Nat) (o : Co) (h : CoAt w bc gc cc gb cb o) (hc : o.s.c < 268435456) (hl : o.s.l < 256) (hn : o.s.b.length ≤ 1000000000) (h1 : 134217728 ≤ o.s.c) (h2 : o.s.l = 254) :
    Calls Try.prog 33 #[.pointer (some ⟨bc, 0, none⟩)] w fun e w' => e = .returned (.tuple #[]) ∧ ∃ gb' cb', CoAt w' bc gc cc gb' cb' { o with s := outP o.s } ∧ CStep bc gc gb gb' w w' := by
  obtain ⟨e0, e1, e2, e3, e4, e5, e6, ef⟩ := cell_of_seven h.blk
  have el := h.last
  have efl := h.bs.frozenAt o.s.b.length
  have hne := h.neb
  have HO : Hid (CoAt w bc gc cc gb cb o) := h
  clear h
  obtain ⟨i0, hi, hz0, hz1, hz2⟩ := info_parts Try.info5
  obtain ⟨⟨a, c, t, b, l⟩, x, made⟩ := o
  simp only [] at *
  obtain ⟨n, Hn⟩ : ∃ n, Hid (n = b.length) := ⟨_, rfl⟩
  rw [← Hn.out] at e5 el efl hn
  subst h2
  go_enter Try.func33, Try.ntmps33
  go_wp2_with fail
  go_region
  go_wp2_with fail
  generalize hW : World.drew _ = wX
  obtain ⟨C, HC⟩ : ∃ C, Hid (C = c % 134217728) := ⟨_, rfl⟩
  obtain ⟨v, HV⟩ : ∃ v, Hid (v = C / 1048576 % 256) := ⟨_, rfl⟩
  obtain ⟨D, HD⟩ : ∃ D, Hid (D = C % 1048576) := ⟨_, rfl⟩
  have HOUT : Hid (outP { a := a, c := c, t := t, b := b, l := 254 } = { a := a, c := D, t := 7, b := b ++ [255], l := v }) := by
    rw [HD.out, HV.out, HC.out]
    exact outP_full a c t b h1
  have hC : C < 268435456 := by rw [HC.out]; omega
  have hv : IntKind.u8.wrap ((C : Int) / 1048576) = (v : Int) := by rw [HV.out]; exact u8_wrap_div C 1048576
  have hD : bits BinOp.and IntKind.u32 (C : Int) 1048575 = (D : Int) := by rw [HD.out]; exact band C 20 (by omega) (by decide)
  have hD2 : D < 4294967296 := by rw [HD.out]; omega
  have HX : Hid (CoAt wX bc gc cc gb cb { s := { a := a, c := C, t := 7, b := b, l := 255 }, x := x, made := made }) := by
    rw [← hW]
    rw [Hn.out]; rw [HC.out]
    exact CoAt.drewN (((HO.out.setL 255).setC (c % 134217728)).setT 7) 1
  have HF : Hid (Fr (fun k => k = bc ∨ k = gc ∨ k = gb) w wX) := by
    rw [← hW]
    exact Fr.drew ((Fr.setCell ((Fr.setCell ((Fr.setCell (Fr.refl _ _) (fun _ => Or.inr (Or.inr rfl)) _)) (fun _ => Or.inl rfl) _)) (fun _ => Or.inl rfl) _))
  clear hW e0 e1 e2 e3 e4 e5 e6 ef el efl
  obtain ⟨e0, e1, e2, e3, e4, e5, e6, ef⟩ := cell_of_seven HX.out.blk
  simp only [] at e0 e1 e2 e3 e4 e5 e6 ef
  rw [← Hn.out] at e5
  have HW : Hid (wX.ownsRow 0 5 1 (.slice (some ⟨gb, 0, none⟩) (n + 1) cb) (n + 1) (byteCells ({ a := a, c := C, t := 7, b := b, l := 255 } : Cs).bytes)) := by
    have := HX.out.bs
    simp only [] at this
    rw [← Hn.out] at this
    exact this
  have hbx : bc < wX.heap.size := HX.out.lt
  have KC : Hid (∀ (w1 : World), (wX.alloc (.cells #[.int .u8 (v : Int)] 5)).drew.grownBy w1 (some gb) → w1.cell? ⟨bc, 5, none⟩ = some (.slice (some ⟨gb, 0, none⟩) (n + 1) cb) ∧ w1.cell? ⟨bc, 3, none⟩ = some (.int .u32 (C : Int)) ∧ w1.frozen? ⟨bc, 5, none⟩ = false ∧ w1.frozen? ⟨bc, 3, none⟩ = false) := by
    intro w1 hgrow
    have f : Fr (fun k => k = gb) wX w1 := (((Fr.refl _ _).alloc _).drew).grown hgrow (fun k hk _ => by simp at hk; exact hk.symm)
    exact ⟨f.cell e5 (Ne.symm hne), f.cell e3 (Ne.symm hne), f.frozen hbx (ef 5) (Ne.symm hne), f.frozen hbx (ef 3) (Ne.symm hne)⟩
  go_region_law ((refine step_append_lies _ (by rfl) _ _ _ (by rfl) 0 5 i0 (.int .u8 0) 1 1 Try.underlying37 hi hz0 hz1 hz2 rfl (by decide) (.slice (some ⟨gb, 0, none⟩) (n + 1) cb) (n + 1) _ (by rfl) (HW.out.alloc _) ⟨wX.heap.size, 0, none⟩ 1 1 [.int .u8 (v : Int)] (by rfl) rfl (cell_one_new wX _ 5) (by intro u hu; simp at hu; subst hu; rfl) (by decide) (by unfold maxLen; omega) (by omega) (Nat.zero_le _) (wX.heap.size + 1) (by simp) ?_; intro g' cap' w1 hown1 hgrow hat hlt; obtain ⟨k5, k3, kf5, kf3⟩ := KC.out w1 hgrow; have HG : Hid ((wX.alloc (.cells #[.int .u8 (v : Int)] 5)).drew.grownBy w1 (some gb)) := hgrow; have HN1 : Hid (w1.ownsRow 0 5 1 (.slice (some ⟨g', 0, none⟩) (n + 1 + 1) cap') (n + 1 + 1) _) := hown1; have hat2 : gb = g' ∨ g' = wX.heap.size + 1 := (by simpa [Value.ownBlock] using hat); have HAT : Hid (gb = g' ∨ g' = wX.heap.size + 1) := hat2; clear hat2; clear hgrow hown1 hat))
  all_goals
    go_wp2_with fail
    go_region
    go_wp2_with fail
    go_end0
    have hx' : CoAt _ bc gc cc g' cap' _ := HX.out.appended (v := v) HG.out (by rw [← Hn.out]; exact HN1.out) HAT.out
    refine ⟨rfl, g', cap', ?_, ?_, ?_⟩
    · have hz := (hx'.setC D).drewN 1
      rw [← Hn.out] at hz
      rw [HOUT.out]
      exact hz
    · exact Fr.drew (Fr.setCell (Fr.setCell (Fr.grown (Fr.drew (Fr.alloc HF.out _)) HG.out (fun k hk _ => Or.inr (Or.inr (by simp at hk; exact hk.symm)))) (fun _ => Or.inl rfl) _) (fun _ => Or.inl rfl) _)
    · have := HF.out.size
      rcases HAT.out with e | e
      · exact Or.inl e.symm
      · exact Or.inr (by omega)

set_option maxRecDepth 100000 in
set_option maxHeartbeats 2000000 in
theorem out_long (w : World) (bc gc cc gb cb : Nat) (o : Co) (h : CoAt w bc gc cc gb cb o) (hc : o.s.c < 268435456) (hl : o.s.l < 256) (hn : o.s.b.length ≤ 1000000000) (h1 : o.s.c < 134217728) (h2 : o.s.l < 255) :
    Calls Try.prog 33 #[.pointer (some ⟨bc, 0, none⟩)] w fun e w' => e = .returned (.tuple #[]) ∧ ∃ gb' cb', CoAt w' bc gc cc gb' cb' { o with s := outP o.s } ∧ CStep bc gc gb gb' w w' := by
  obtain ⟨e0, e1, e2, e3, e4, e5, e6, ef⟩ := cell_of_seven h.blk
  have el := h.last
  have efl := h.bs.frozenAt o.s.b.length
  have hne := h.neb
  have HO : Hid (CoAt w bc gc cc gb cb o) := h
  clear h
  obtain ⟨i0, hi, hz0, hz1, hz2⟩ := info_parts Try.info5
  obtain ⟨⟨a, c, t, b, l⟩, x, made⟩ := o
  simp only [] at *
  obtain ⟨n, Hn⟩ : ∃ n, Hid (n = b.length) := ⟨_, rfl⟩
  rw [← Hn.out] at e5 el efl hn
  go_enter Try.func33, Try.ntmps33
  go_wp2_with fail
  go_region
  go_wp2_with fail
  generalize hW : World.drew _ = wX
  obtain ⟨C, HC⟩ : ∃ C, Hid (C = c) := ⟨_, rfl⟩
  obtain ⟨v, HV⟩ : ∃ v, Hid (v = C / 524288 % 256) := ⟨_, rfl⟩
  obtain ⟨D, HD⟩ : ∃ D, Hid (D = C % 524288) := ⟨_, rfl⟩
  have HOUT : Hid (outP { a := a, c := c, t := t, b := b, l := l } = { a := a, c := D, t := 8, b := b ++ [l], l := v }) := by
    rw [HD.out, HV.out, HC.out]
    exact outP_long a c t b l h1 h2
  have hC : C < 268435456 := by rw [HC.out]; omega
  have hv : IntKind.u8.wrap ((C : Int) / 524288) = (v : Int) := by rw [HV.out]; exact u8_wrap_div C 524288
  have hD : bits BinOp.and IntKind.u32 (C : Int) 524287 = (D : Int) := by rw [HD.out]; exact band C 19 (by omega) (by decide)
  have hD2 : D < 4294967296 := by rw [HD.out]; omega
  have HX : Hid (CoAt wX bc gc cc gb cb { s := { a := a, c := C, t := 8, b := b, l := l }, x := x, made := made }) := by
    rw [← hW]
    rw [HC.out]
    exact CoAt.drewN ((HO.out.setT 7).setT 8) 1
  have HF : Hid (Fr (fun k => k = bc ∨ k = gc ∨ k = gb) w wX) := by
    rw [← hW]
    exact Fr.drew ((Fr.setCell ((Fr.setCell (Fr.refl _ _) (fun _ => Or.inl rfl) _)) (fun _ => Or.inl rfl) _))
  clear hW e0 e1 e2 e3 e4 e5 e6 ef el efl
  obtain ⟨e0, e1, e2, e3, e4, e5, e6, ef⟩ := cell_of_seven HX.out.blk
  simp only [] at e0 e1 e2 e3 e4 e5 e6 ef
  rw [← Hn.out] at e5
  have HW : Hid (wX.ownsRow 0 5 1 (.slice (some ⟨gb, 0, none⟩) (n + 1) cb) (n + 1) (byteCells ({ a := a, c := C, t := 8, b := b, l := l } : Cs).bytes)) := by
    have := HX.out.bs
    simp only [] at this
    rw [← Hn.out] at this
    exact this
  have hbx : bc < wX.heap.size := HX.out.lt
  have KC : Hid (∀ (w1 : World), (wX.alloc (.cells #[.int .u8 (v : Int)] 5)).drew.grownBy w1 (some gb) → w1.cell? ⟨bc, 5, none⟩ = some (.slice (some ⟨gb, 0, none⟩) (n + 1) cb) ∧ w1.cell? ⟨bc, 3, none⟩ = some (.int .u32 (C : Int)) ∧ w1.frozen? ⟨bc, 5, none⟩ = false ∧ w1.frozen? ⟨bc, 3, none⟩ = false) := by
    intro w1 hgrow
    have f : Fr (fun k => k = gb) wX w1 := (((Fr.refl _ _).alloc _).drew).grown hgrow (fun k hk _ => by simp at hk; exact hk.symm)
    exact ⟨f.cell e5 (Ne.symm hne), f.cell e3 (Ne.symm hne), f.frozen hbx (ef 5) (Ne.symm hne), f.frozen hbx (ef 3) (Ne.symm hne)⟩
  go_region_law ((refine step_append_lies _ (by rfl) _ _ _ (by rfl) 0 5 i0 (.int .u8 0) 1 1 Try.underlying37 hi hz0 hz1 hz2 rfl (by decide) (.slice (some ⟨gb, 0, none⟩) (n + 1) cb) (n + 1) _ (by rfl) (HW.out.alloc _) ⟨wX.heap.size, 0, none⟩ 1 1 [.int .u8 (v : Int)] (by rfl) rfl (cell_one_new wX _ 5) (by intro u hu; simp at hu; subst hu; rfl) (by decide) (by unfold maxLen; omega) (by omega) (Nat.zero_le _) (wX.heap.size + 1) (by simp) ?_; intro g' cap' w1 hown1 hgrow hat hlt; obtain ⟨k5, k3, kf5, kf3⟩ := KC.out w1 hgrow; have HG : Hid ((wX.alloc (.cells #[.int .u8 (v : Int)] 5)).drew.grownBy w1 (some gb)) := hgrow; have HN1 : Hid (w1.ownsRow 0 5 1 (.slice (some ⟨g', 0, none⟩) (n + 1 + 1) cap') (n + 1 + 1) _) := hown1; have hat2 : gb = g' ∨ g' = wX.heap.size + 1 := (by simpa [Value.ownBlock] using hat); have HAT : Hid (gb = g' ∨ g' = wX.heap.size + 1) := hat2; clear hat2; clear hgrow hown1 hat))
  all_goals
    go_wp2_with fail
    go_region
    go_wp2_with fail
    go_end0
    have hx' : CoAt _ bc gc cc g' cap' _ := HX.out.appended (v := v) HG.out (by rw [← Hn.out]; exact HN1.out) HAT.out
    refine ⟨rfl, g', cap', ?_, ?_, ?_⟩
    · have hz := (hx'.setC D).drewN 1
      rw [← Hn.out] at hz
      rw [HOUT.out]
      exact hz
    · exact Fr.drew (Fr.setCell (Fr.setCell (Fr.grown (Fr.drew (Fr.alloc HF.out _)) HG.out (fun k hk _ => Or.inr (Or.inr (by simp at hk; exact hk.symm)))) (fun _ => Or.inl rfl) _) (fun _ => Or.inl rfl) _)
    · have := HF.out.size
      rcases HAT.out with e | e
      · exact Or.inl e.symm
      · exact Or.inr (by omega)

set_option maxRecDepth 100000 in
set_option maxHeartbeats 2000000 in
theorem out_short (w : World) (bc gc cc gb cb : Nat) (o : Co) (h : CoAt w bc gc cc gb cb o) (hc : o.s.c < 268435456) (hl : o.s.l < 256) (hn : o.s.b.length ≤ 1000000000) (h1 : o.s.c < 134217728) (h2 : o.s.l = 255) :
    Calls Try.prog 33 #[.pointer (some ⟨bc, 0, none⟩)] w fun e w' => e = .returned (.tuple #[]) ∧ ∃ gb' cb', CoAt w' bc gc cc gb' cb' { o with s := outP o.s } ∧ CStep bc gc gb gb' w w' := by
  obtain ⟨e0, e1, e2, e3, e4, e5, e6, ef⟩ := cell_of_seven h.blk
  have el := h.last
  have efl := h.bs.frozenAt o.s.b.length
  have hne := h.neb
  have HO : Hid (CoAt w bc gc cc gb cb o) := h
  clear h
  obtain ⟨i0, hi, hz0, hz1, hz2⟩ := info_parts Try.info5
  obtain ⟨⟨a, c, t, b, l⟩, x, made⟩ := o
  simp only [] at *
  obtain ⟨n, Hn⟩ : ∃ n, Hid (n = b.length) := ⟨_, rfl⟩
  rw [← Hn.out] at e5 el efl hn
  subst h2
  go_enter Try.func33, Try.ntmps33
  go_wp2_with fail
  go_region
  go_wp2_with fail
  generalize hW : World.drew _ = wX
  obtain ⟨C, HC⟩ : ∃ C, Hid (C = c) := ⟨_, rfl⟩
  obtain ⟨v, HV⟩ : ∃ v, Hid (v = C / 1048576 % 256) := ⟨_, rfl⟩
  obtain ⟨D, HD⟩ : ∃ D, Hid (D = C % 1048576) := ⟨_, rfl⟩
  have HOUT : Hid (outP { a := a, c := c, t := t, b := b, l := 255 } = { a := a, c := D, t := 7, b := b ++ [255], l := v }) := by
    rw [HD.out, HV.out, HC.out]
    exact outP_short a c t b
  have hC : C < 268435456 := by rw [HC.out]; omega
  have hv : IntKind.u8.wrap ((C : Int) / 1048576) = (v : Int) := by rw [HV.out]; exact u8_wrap_div C 1048576
  have hD : bits BinOp.and IntKind.u32 (C : Int) 1048575 = (D : Int) := by rw [HD.out]; exact band C 20 (by omega) (by decide)
  have hD2 : D < 4294967296 := by rw [HD.out]; omega
  have HX : Hid (CoAt wX bc gc cc gb cb { s := { a := a, c := C, t := 7, b := b, l := 255 }, x := x, made := made }) := by
    rw [← hW]
    rw [HC.out]
    exact CoAt.drewN (HO.out.setT 7) 1
  have HF : Hid (Fr (fun k => k = bc ∨ k = gc ∨ k = gb) w wX) := by
    rw [← hW]
    exact Fr.drew ((Fr.setCell (Fr.refl _ _) (fun _ => Or.inl rfl) _))
  clear hW e0 e1 e2 e3 e4 e5 e6 ef el efl
  obtain ⟨e0, e1, e2, e3, e4, e5, e6, ef⟩ := cell_of_seven HX.out.blk
  simp only [] at e0 e1 e2 e3 e4 e5 e6 ef
  rw [← Hn.out] at e5
  have HW : Hid (wX.ownsRow 0 5 1 (.slice (some ⟨gb, 0, none⟩) (n + 1) cb) (n + 1) (byteCells ({ a := a, c := C, t := 7, b := b, l := 255 } : Cs).bytes)) := by
    have := HX.out.bs
    simp only [] at this
    rw [← Hn.out] at this
    exact this
  have hbx : bc < wX.heap.size := HX.out.lt
  have KC : Hid (∀ (w1 : World), (wX.alloc (.cells #[.int .u8 (v : Int)] 5)).drew.grownBy w1 (some gb) → w1.cell? ⟨bc, 5, none⟩ = some (.slice (some ⟨gb, 0, none⟩) (n + 1) cb) ∧ w1.cell? ⟨bc, 3, none⟩ = some (.int .u32 (C : Int)) ∧ w1.frozen? ⟨bc, 5, none⟩ = false ∧ w1.frozen? ⟨bc, 3, none⟩ = false) := by
    intro w1 hgrow
    have f : Fr (fun k => k = gb) wX w1 := (((Fr.refl _ _).alloc _).drew).grown hgrow (fun k hk _ => by simp at hk; exact hk.symm)
    exact ⟨f.cell e5 (Ne.symm hne), f.cell e3 (Ne.symm hne), f.frozen hbx (ef 5) (Ne.symm hne), f.frozen hbx (ef 3) (Ne.symm hne)⟩
  go_region_law ((refine step_append_lies _ (by rfl) _ _ _ (by rfl) 0 5 i0 (.int .u8 0) 1 1 Try.underlying37 hi hz0 hz1 hz2 rfl (by decide) (.slice (some ⟨gb, 0, none⟩) (n + 1) cb) (n + 1) _ (by rfl) (HW.out.alloc _) ⟨wX.heap.size, 0, none⟩ 1 1 [.int .u8 (v : Int)] (by rfl) rfl (cell_one_new wX _ 5) (by intro u hu; simp at hu; subst hu; rfl) (by decide) (by unfold maxLen; omega) (by omega) (Nat.zero_le _) (wX.heap.size + 1) (by simp) ?_; intro g' cap' w1 hown1 hgrow hat hlt; obtain ⟨k5, k3, kf5, kf3⟩ := KC.out w1 hgrow; have HG : Hid ((wX.alloc (.cells #[.int .u8 (v : Int)] 5)).drew.grownBy w1 (some gb)) := hgrow; have HN1 : Hid (w1.ownsRow 0 5 1 (.slice (some ⟨g', 0, none⟩) (n + 1 + 1) cap') (n + 1 + 1) _) := hown1; have hat2 : gb = g' ∨ g' = wX.heap.size + 1 := (by simpa [Value.ownBlock] using hat); have HAT : Hid (gb = g' ∨ g' = wX.heap.size + 1) := hat2; clear hat2; clear hgrow hown1 hat))
  all_goals
    go_wp2_with fail
    go_region
    go_wp2_with fail
    go_end0
    have hx' : CoAt _ bc gc cc g' cap' _ := HX.out.appended (v := v) HG.out (by rw [← Hn.out]; exact HN1.out) HAT.out
    refine ⟨rfl, g', cap', ?_, ?_, ?_⟩
    · have hz := (hx'.setC D).drewN 1
      rw [← Hn.out] at hz
      rw [HOUT.out]
      exact hz
    · exact Fr.drew (Fr.setCell (Fr.setCell (Fr.grown (Fr.drew (Fr.alloc HF.out _)) HG.out (fun k hk _ => Or.inr (Or.inr (by simp at hk; exact hk.symm)))) (fun _ => Or.inl rfl) _) (fun _ => Or.inl rfl) _)
    · have := HF.out.size
      rcases HAT.out with e | e
      · exact Or.inl e.symm
      · exact Or.inr (by omega)

set_option maxRecDepth 100000 in
set_option maxHeartbeats 2000000 in
theorem out_short2 (w : World) (bc gc cc gb cb : Nat) (o : Co) (h : CoAt w bc gc cc gb cb o) (hc : o.s.c < 268435456) (hl : o.s.l < 256) (hn : o.s.b.length ≤ 1000000000) (h1 : 134217728 ≤ o.s.c) (h2 : o.s.l = 255) :
    Calls Try.prog 33 #[.pointer (some ⟨bc, 0, none⟩)] w fun e w' => e = .returned (.tuple #[]) ∧ ∃ gb' cb', CoAt w' bc gc cc gb' cb' { o with s := outP o.s } ∧ CStep bc gc gb gb' w w' := by
  obtain ⟨e0, e1, e2, e3, e4, e5, e6, ef⟩ := cell_of_seven h.blk
  have el := h.last
  have efl := h.bs.frozenAt o.s.b.length
  have hne := h.neb
  have HO : Hid (CoAt w bc gc cc gb cb o) := h
  clear h
  obtain ⟨i0, hi, hz0, hz1, hz2⟩ := info_parts Try.info5
  obtain ⟨⟨a, c, t, b, l⟩, x, made⟩ := o
  simp only [] at *
  obtain ⟨n, Hn⟩ : ∃ n, Hid (n = b.length) := ⟨_, rfl⟩
  rw [← Hn.out] at e5 el efl hn
  subst h2
  go_enter Try.func33, Try.ntmps33
  go_wp2_with fail
  go_region
  go_wp2_with fail
  generalize hW : World.drew _ = wX
  obtain ⟨C, HC⟩ : ∃ C, Hid (C = c) := ⟨_, rfl⟩
  obtain ⟨v, HV⟩ : ∃ v, Hid (v = C / 1048576 % 256) := ⟨_, rfl⟩
  obtain ⟨D, HD⟩ : ∃ D, Hid (D = C % 1048576) := ⟨_, rfl⟩
  have HOUT : Hid (outP { a := a, c := c, t := t, b := b, l := 255 } = { a := a, c := D, t := 7, b := b ++ [255], l := v }) := by
    rw [HD.out, HV.out, HC.out]
    exact outP_short a c t b
  have hC : C < 268435456 := by rw [HC.out]; omega
  have hv : IntKind.u8.wrap ((C : Int) / 1048576) = (v : Int) := by rw [HV.out]; exact u8_wrap_div C 1048576
  have hD : bits BinOp.and IntKind.u32 (C : Int) 1048575 = (D : Int) := by rw [HD.out]; exact band C 20 (by omega) (by decide)
  have hD2 : D < 4294967296 := by rw [HD.out]; omega
  have HX : Hid (CoAt wX bc gc cc gb cb { s := { a := a, c := C, t := 7, b := b, l := 255 }, x := x, made := made }) := by
    rw [← hW]
    rw [HC.out]
    exact CoAt.drewN (HO.out.setT 7) 1
  have HF : Hid (Fr (fun k => k = bc ∨ k = gc ∨ k = gb) w wX) := by
    rw [← hW]
    exact Fr.drew ((Fr.setCell (Fr.refl _ _) (fun _ => Or.inl rfl) _))
  clear hW e0 e1 e2 e3 e4 e5 e6 ef el efl
  obtain ⟨e0, e1, e2, e3, e4, e5, e6, ef⟩ := cell_of_seven HX.out.blk
  simp only [] at e0 e1 e2 e3 e4 e5 e6 ef
  rw [← Hn.out] at e5
  have HW : Hid (wX.ownsRow 0 5 1 (.slice (some ⟨gb, 0, none⟩) (n + 1) cb) (n + 1) (byteCells ({ a := a, c := C, t := 7, b := b, l := 255 } : Cs).bytes)) := by
    have := HX.out.bs
    simp only [] at this
    rw [← Hn.out] at this
    exact this
  have hbx : bc < wX.heap.size := HX.out.lt
  have KC : Hid (∀ (w1 : World), (wX.alloc (.cells #[.int .u8 (v : Int)] 5)).drew.grownBy w1 (some gb) → w1.cell? ⟨bc, 5, none⟩ = some (.slice (some ⟨gb, 0, none⟩) (n + 1) cb) ∧ w1.cell? ⟨bc, 3, none⟩ = some (.int .u32 (C : Int)) ∧ w1.frozen? ⟨bc, 5, none⟩ = false ∧ w1.frozen? ⟨bc, 3, none⟩ = false) := by
    intro w1 hgrow
    have f : Fr (fun k => k = gb) wX w1 := (((Fr.refl _ _).alloc _).drew).grown hgrow (fun k hk _ => by simp at hk; exact hk.symm)
    exact ⟨f.cell e5 (Ne.symm hne), f.cell e3 (Ne.symm hne), f.frozen hbx (ef 5) (Ne.symm hne), f.frozen hbx (ef 3) (Ne.symm hne)⟩
  go_region_law ((refine step_append_lies _ (by rfl) _ _ _ (by rfl) 0 5 i0 (.int .u8 0) 1 1 Try.underlying37 hi hz0 hz1 hz2 rfl (by decide) (.slice (some ⟨gb, 0, none⟩) (n + 1) cb) (n + 1) _ (by rfl) (HW.out.alloc _) ⟨wX.heap.size, 0, none⟩ 1 1 [.int .u8 (v : Int)] (by rfl) rfl (cell_one_new wX _ 5) (by intro u hu; simp at hu; subst hu; rfl) (by decide) (by unfold maxLen; omega) (by omega) (Nat.zero_le _) (wX.heap.size + 1) (by simp) ?_; intro g' cap' w1 hown1 hgrow hat hlt; obtain ⟨k5, k3, kf5, kf3⟩ := KC.out w1 hgrow; have HG : Hid ((wX.alloc (.cells #[.int .u8 (v : Int)] 5)).drew.grownBy w1 (some gb)) := hgrow; have HN1 : Hid (w1.ownsRow 0 5 1 (.slice (some ⟨g', 0, none⟩) (n + 1 + 1) cap') (n + 1 + 1) _) := hown1; have hat2 : gb = g' ∨ g' = wX.heap.size + 1 := (by simpa [Value.ownBlock] using hat); have HAT : Hid (gb = g' ∨ g' = wX.heap.size + 1) := hat2; clear hat2; clear hgrow hown1 hat))
  all_goals
    go_wp2_with fail
    go_region
    go_wp2_with fail
    go_end0
    have hx' : CoAt _ bc gc cc g' cap' _ := HX.out.appended (v := v) HG.out (by rw [← Hn.out]; exact HN1.out) HAT.out
    refine ⟨rfl, g', cap', ?_, ?_, ?_⟩
    · have hz := (hx'.setC D).drewN 1
      rw [← Hn.out] at hz
      rw [HOUT.out]
      exact hz
    · exact Fr.drew (Fr.setCell (Fr.setCell (Fr.grown (Fr.drew (Fr.alloc HF.out _)) HG.out (fun k hk _ => Or.inr (Or.inr (by simp at hk; exact hk.symm)))) (fun _ => Or.inl rfl) _) (fun _ => Or.inl rfl) _)
    · have := HF.out.size
      rcases HAT.out with e | e
      · exact Or.inl e.symm
      · exact Or.inr (by omega)

/-- A byte goes out. -/
theorem out_any (w : World) (bc gc cc gb cb : Nat) (o : Co) (h : CoAt w bc gc cc gb cb o) (hc : o.s.c < 268435456) (hl : o.s.l < 256) (hn : o.s.b.length ≤ 1000000000) :
    Calls Try.prog 33 #[.pointer (some ⟨bc, 0, none⟩)] w fun e w' => e = .returned (.tuple #[]) ∧ ∃ gb' cb', CoAt w' bc gc cc gb' cb' { o with s := outP o.s } ∧ CStep bc gc gb gb' w w' := by
  by_cases h1 : 134217728 ≤ o.s.c
  · by_cases h2 : o.s.l < 254
    · exact out_carry w bc gc cc gb cb o h hc hl hn h1 h2
    · by_cases h3 : o.s.l = 254
      · exact out_full w bc gc cc gb cb o h hc hl hn h1 h3
      · exact out_short2 w bc gc cc gb cb o h hc hl hn h1 (by omega)
  · by_cases h2 : o.s.l < 255
    · exact out_long w bc gc cc gb cb o h hc hl hn (by omega) h2
    · exact out_short w bc gc cc gb cb o h hc hl hn (by omega) (by omega)

end Go.Proofs.Ytkggdnkmaldmlab
