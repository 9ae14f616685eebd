/- The reference's decoder in memory: over the same plain decoder. -/
import Derived.Test.YtkggdnkmaldmlaaK36
import Derived.Test.YtkggdnkmaldmlaaK11
namespace Go.Proofs.Ytkggdnkmaldmlaa
open Go.RowKit

/-- A decoder of the reference: its block br, its table gt, its states gs, its likelier bits gz, its bytes vb. -/
structure RdAt (w : World) (br gt ct gs gz n : Nat) (vb : Value) (B : List Nat) (o : De) : Prop where
  blk : w.heap[br]? = some (.cells #[.slice (some ⟨gt, 0, none⟩) 47 ct, .slice (some ⟨gs, 0, none⟩) n n, .slice (some ⟨gz, 0, none⟩) n n, .int .i64 (o.made : Nat), .int .i64 (o.s.a : Nat), .int .i64 (o.s.c : Nat), .int .i64 (o.s.t : Nat), vb, .int .i64 (o.s.p : Nat)] 122 (0, 0))
  tab : w.ownsRow 0 129 4 (.slice (some ⟨gt, 0, none⟩) 47 ct) 47 (tabCells 47)
  st : w.ownsRow 0 3 1 (.slice (some ⟨gs, 0, none⟩) n n) n (intCells (o.x.map (· / 2)))
  bt : w.ownsRow 0 3 1 (.slice (some ⟨gz, 0, none⟩) n n) n (intCells (o.x.map (· % 2)))
  bs : w.ownsRow 0 5 1 vb B.length (byteCells B)
  lim : B.length ≤ 140737488355328
  ne : gs ≠ gz
  len : o.x.length = n

theorem RdAt.lt {w : World} {br gt ct gs gz n : Nat} {vb : Value} {B : List Nat} {o : De} (h : RdAt w br gt ct gs gz n vb B o) : br < w.heap.size := lt_of_block h.blk
theorem RdAt.kept {w w' : World} {br gt ct gs gz n : Nat} {vb : Value} {B : List Nat} {o : De} {S : Nat → Prop} (h : RdAt w br gt ct gs gz n vb B o) (f : Fr S w w') (h1 : ¬ S br) (h2 : ¬ S gt) (h3 : ¬ S gs) (h4 : ¬ S gz) (h5 : ∀ k, vb.ownBlock = some k → ¬ S k) : RdAt w' br gt ct gs gz n vb B o :=
  ⟨by rw [f.block br h.lt h1]; exact h.blk, row_kept1 h.tab f h2, row_kept1 h.st f h3, row_kept1 h.bt f h4, row_kept h.bs f h5, h.lim, h.ne, h.len⟩
theorem RdAt.keptAll {w w' : World} {br gt ct gs gz n : Nat} {vb : Value} {B : List Nat} {o : De} (h : RdAt w br gt ct gs gz n vb B o) (f : Fr (fun _ => False) w w') : RdAt w' br gt ct gs gz n vb B o := h.kept f (fun h => h) (fun h => h) (fun h => h) (fun h => h) (fun _ _ h => h)
theorem RdAt.nes {w : World} {br gt ct gs gz n : Nat} {vb : Value} {B : List Nat} {o : De} (h : RdAt w br gt ct gs gz n vb B o) : gt ≠ br ∧ gs ≠ br ∧ gz ≠ br ∧ (∀ k, vb.ownBlock = some k → k ≠ br ∧ k ≠ gt ∧ k ≠ gs ∧ k ≠ gz) ∧ gs ≠ gt ∧ gz ≠ gt :=
  ⟨row_nb h.tab rfl h.blk (by decide), row_nb h.st rfl h.blk (by decide), row_nb h.bt rfl h.blk (by decide), fun k hk => ⟨row_nb h.bs hk h.blk (by decide), row_ne h.bs h.tab hk rfl (by decide), row_ne h.bs h.st hk rfl (by decide), row_ne h.bs h.bt hk rfl (by decide)⟩, row_ne h.st h.tab rfl rfl (by decide), row_ne h.bt h.tab rfl rfl (by decide)⟩

theorem RdAt.reg {w : World} {br gt ct gs gz n : Nat} {vb : Value} {B : List Nat} {o o' : De} (h : RdAt w br gt ct gs gz n vb B o) (j : Nat) (u : Value) (hx : o'.x = o.x)
    (hb : (#[.slice (some ⟨gt, 0, none⟩) 47 ct, .slice (some ⟨gs, 0, none⟩) n n, .slice (some ⟨gz, 0, none⟩) n n, .int .i64 (o.made : Nat), .int .i64 (o.s.a : Nat), .int .i64 (o.s.c : Nat), .int .i64 (o.s.t : Nat), vb, .int .i64 (o.s.p : Nat)] : Array Value).setIfInBounds j u = #[.slice (some ⟨gt, 0, none⟩) 47 ct, .slice (some ⟨gs, 0, none⟩) n n, .slice (some ⟨gz, 0, none⟩) n n, .int .i64 (o'.made : Nat), .int .i64 (o'.s.a : Nat), .int .i64 (o'.s.c : Nat), .int .i64 (o'.s.t : Nat), vb, .int .i64 (o'.s.p : Nat)]) :
    RdAt (w.setCell ⟨br, j, none⟩ u) br gt ct gs gz n vb B o' := by
  have f := Fr.set1 w br j u
  obtain ⟨n1, n2, n3, n4, _⟩ := h.nes
  refine ⟨?_, row_kept1 h.tab f n1, ?_, ?_, row_kept h.bs f (fun k hk => (n4 k hk).1), h.lim, h.ne, by rw [hx]; exact h.len⟩
  · rw [seven_set h.blk, hb]
  · rw [hx]; exact row_kept1 h.st f n2
  · rw [hx]; exact row_kept1 h.bt f n3
theorem RdAt.setMade {w : World} {br gt ct gs gz n : Nat} {vb : Value} {B : List Nat} {o : De} (h : RdAt w br gt ct gs gz n vb B o) (v : Nat) : RdAt (w.setCell ⟨br, 3, none⟩ (.int .i64 (v : Int))) br gt ct gs gz n vb B { o with made := v } := h.reg 3 _ rfl rfl
theorem RdAt.setA {w : World} {br gt ct gs gz n : Nat} {vb : Value} {B : List Nat} {o : De} (h : RdAt w br gt ct gs gz n vb B o) (v : Nat) : RdAt (w.setCell ⟨br, 4, none⟩ (.int .i64 (v : Int))) br gt ct gs gz n vb B { o with s := { o.s with a := v } } := h.reg 4 _ rfl rfl
theorem RdAt.setC {w : World} {br gt ct gs gz n : Nat} {vb : Value} {B : List Nat} {o : De} (h : RdAt w br gt ct gs gz n vb B o) (v : Nat) : RdAt (w.setCell ⟨br, 5, none⟩ (.int .i64 (v : Int))) br gt ct gs gz n vb B { o with s := { o.s with c := v } } := h.reg 5 _ rfl rfl
theorem RdAt.setT {w : World} {br gt ct gs gz n : Nat} {vb : Value} {B : List Nat} {o : De} (h : RdAt w br gt ct gs gz n vb B o) (v : Nat) : RdAt (w.setCell ⟨br, 6, none⟩ (.int .i64 (v : Int))) br gt ct gs gz n vb B { o with s := { o.s with t := v } } := h.reg 6 _ rfl rfl
theorem RdAt.setP {w : World} {br gt ct gs gz n : Nat} {vb : Value} {B : List Nat} {o : De} (h : RdAt w br gt ct gs gz n vb B o) (v : Nat) : RdAt (w.setCell ⟨br, 8, none⟩ (.int .i64 (v : Int))) br gt ct gs gz n vb B { o with s := { o.s with p := v } } := h.reg 8 _ rfl rfl

set_option maxRecDepth 100000 in
set_option maxHeartbeats 1000000 in
theorem rbyte_any (w : World) (br gt ct gs gz n : Nat) (vb : Value) (B : List Nat) (o : De) (h : RdAt w br gt ct gs gz n vb B o) (hB : ∀ y ∈ B, y < 256) (i : Nat) (hi : i ≤ 140737488355329) :
    Calls Try.prog 73 #[.pointer (some ⟨br, 0, none⟩), .int .i64 i] w fun e w' => e = .returned (.int .i64 (byteD B i : Nat)) ∧ w' = w := by
  obtain ⟨e0, e1, e2, e3, e4, e5, e6, e7, e8, ef⟩ := cell_of_nine h.blk
  have hlim := h.lim
  obtain ⟨n2, Hn⟩ : ∃ n2, Hid (n2 = B.length) := ⟨_, rfl⟩
  have hb := h.bs
  rw [← Hn.out] at hb hlim
  clear h e0 e1 e2 e3 e4 e5 e6 e8 ef
  by_cases hin : i < n2
  · obtain ⟨g, cap, rfl, _, hc, hm⟩ := row_form hb (by omega)
    have c := hb.cellAt i (by omega)
    have hv : (byteCells B)[i]? = some (.int .u8 (byteD B i : Nat)) := by
      rw [byteCells_get, byteD, List.getD_eq_getElem?_getD, List.getElem?_eq_getElem (by have := Hn.out; omega)]; rfl
    rw [hv] at c
    obtain ⟨v, HV⟩ : ∃ v, Hid (v = byteD B i) := ⟨_, rfl⟩
    have hv2 : v < 256 := by rw [HV.out]; exact byteD_lt hB i
    rw [← HV.out] at c ⊢
    clear hb hv
    go_enter Try.func73, Try.ntmps73
    go_wp2_with fail
    go_ret
    exact ⟨rfl, rfl⟩
  · have hv : byteD B i = 255 := byteD_past (by have := Hn.out; omega)
    rw [hv]
    rcases hb.2 with ⟨rfl, e⟩ | ⟨g, cap, cur, rfl, _, _, hc, hm, _⟩
    · clear hb
      go_enter Try.func73, Try.ntmps73
      go_wp2_with fail
      go_ret
      exact ⟨rfl, rfl⟩
    · clear hb
      go_enter Try.func73, Try.ntmps73
      go_wp2_with fail
      go_ret
      exact ⟨rfl, rfl⟩

end Go.Proofs.Ytkggdnkmaldmlaa

/- The reference's decoder: a byte comes in. -/
namespace Go.Proofs.Ytkggdnkmaldmlaa
open Go.RowKit

/-- What a step of it may touch. -/
abbrev RdStep (br gs gz : Nat) (w w' : World) : Prop := Fr (fun k => k = br ∨ k = gs ∨ k = gz) w w'

set_option maxRecDepth 100000 in
set_option maxHeartbeats 2000000 in
theorem rin_any (w : World) (br gt ct gs gz n : Nat) (vb : Value) (B : List Nat) (o : De) (h : RdAt w br gt ct gs gz n vb B o) (hB : ∀ y ∈ B, y < 256) (hw : Dw B o.s) :
    Calls Try.prog 74 #[.pointer (some ⟨br, 0, none⟩)] w fun e w' => e = .returned (.tuple #[]) ∧ RdAt w' br gt ct gs gz n vb B { o with s := inD B o.s } ∧ RdStep br gs gz w w' := by
  obtain ⟨e0, e1, e2, e3, e4, e5, e6, e7, e8, ef⟩ := cell_of_nine h.blk
  have HO : Hid (RdAt w br gt ct gs gz n vb B o) := h
  have hp := hw.plt
  have hlim := h.lim
  have hc := hw.clt
  have HBB : Hid (∀ y ∈ B, y < 256) := hB
  have hbl := h.lt
  obtain ⟨⟨a, c, t, p⟩, x, made⟩ := o
  simp only [] at *
  have hlt1 := byteD_lt hB p
  have hlt2 := byteD_lt hB (p + 1)
  have HU : Hid (inD B { a := a, c := c, t := t, p := p } = if byteD B p ≠ 255 then { a := a, c := (c + byteD B (p + 1) * 256) % 4294967296, t := 8, p := p + 1 } else if 143 < byteD B (p + 1) then { a := a, c := (c + 65280) % 4294967296, t := 8, p := p } else { a := a, c := (c + byteD B (p + 1) * 512) % 4294967296, t := 7, p := p + 1 }) := rfl
  have HN1 : Hid (Calls Try.prog 73 #[.pointer (some ⟨br, 0, none⟩), .int .i64 (p : Int)] w fun e w' => e = .returned (.int .i64 (byteD B p : Nat)) ∧ w' = w) := rbyte_any w br gt ct gs gz n vb B _ HO.out HBB.out p (by omega)
  have HN2 : Hid (Calls Try.prog 73 #[.pointer (some ⟨br, 0, none⟩), .int .i64 ((p : Int) + 1)] w fun e w' => e = .returned (.int .i64 (byteD B (p + 1) : Nat)) ∧ w' = w) := rbyte_any w br gt ct gs gz n vb B _ HO.out HBB.out (p + 1) (by omega)
  have HN3 : Hid (∀ w', Fr (fun _ => False) (w.setCell ⟨br, 8, none⟩ (.int .i64 ((p : Int) + 1))) w' → Calls Try.prog 73 #[.pointer (some ⟨br, 0, none⟩), .int .i64 ((p : Int) + 1)] w' fun e w'' => e = .returned (.int .i64 (byteD B (p + 1) : Nat)) ∧ w'' = w') := fun w' f => by
    have h3 := HO.out.setP (p + 1)
    rw [show ((p + 1 : Nat) : Int) = (p : Int) + 1 by omega] at h3
    exact rbyte_any _ br gt ct gs gz n vb B _ (h3.keptAll f) HBB.out (p + 1) (by omega)
  clear h hw hB
  obtain ⟨u, hu⟩ : ∃ u, u = byteD B p := ⟨_, rfl⟩
  obtain ⟨v, hv⟩ : ∃ v, v = byteD B (p + 1) := ⟨_, rfl⟩
  rw [← hu] at hlt1 HU HN1
  rw [← hv] at hlt2 HU HN2 HN3
  clear hu hv
  have hand : ∀ m : Nat, m < 8589934592 → bits BinOp.and IntKind.i64 (m : Int) 4294967295 = ((m % 4294967296 : Nat) : Int) := fun m hm => band64r m 32 (by omega) (by decide)
  have HAnd : Hid (∀ m : Nat, m < 8589934592 → bits BinOp.and IntKind.i64 (m : Int) 4294967295 = ((m % 4294967296 : Nat) : Int)) := hand
  clear hand
  by_cases h1 : u = 255
  · subst h1
    by_cases h2 : 143 < v
    · obtain ⟨d, HD⟩ : ∃ d, Hid (d = (c + 65280) % 4294967296) := ⟨_, rfl⟩
      have hd : bits BinOp.and IntKind.i64 ((c : Int) + 65280) 4294967295 = (d : Int) := by
        have := HAnd.out (c + 65280) (by omega)
        rw [HD.out]; exact this
      rw [if_neg (by simp), if_pos h2, ← HD.out] at HU
      go_enter Try.func74, Try.ntmps74
      go_wp2_with fail
      refine HN1.out.mono ?_
      rintro e w1 ⟨rfl, hw1⟩
      subst hw1
      go_wp2_with fail
      refine HN2.out.mono ?_
      rintro e w2 ⟨rfl, hw2⟩
      subst hw2
      go_wp2_with fail
      go_end0
      refine ⟨rfl, ?_, Fr.setCell (Fr.setCell (Fr.setCell (Fr.refl _ _) (fun _ => Or.inl rfl) _) (fun _ => Or.inl rfl) _) (fun _ => Or.inl rfl) _⟩
      rw [HU.out]
      have h9 := ((HO.out.setC (c + 65280)).setT 8).setC d
      rw [show ((c + 65280 : Nat) : Int) = (c : Int) + 65280 by omega] at h9
      exact h9
    · obtain ⟨d, HD⟩ : ∃ d, Hid (d = (c + v * 512) % 4294967296) := ⟨_, rfl⟩
      have hd : bits BinOp.and IntKind.i64 ((c : Int) + (v : Int) * 512) 4294967295 = (d : Int) := by
        have := HAnd.out (c + v * 512) (by omega)
        rw [show ((c + v * 512 : Nat) : Int) = (c : Int) + (v : Int) * 512 by omega] at this
        rw [HD.out]; exact this
      rw [if_neg (by simp), if_neg h2, ← HD.out] at HU
      go_enter Try.func74, Try.ntmps74
      go_wp2_with fail
      refine HN1.out.mono ?_
      rintro e w1 ⟨rfl, hw1⟩
      subst hw1
      go_wp2_with fail
      refine HN2.out.mono ?_
      rintro e w2 ⟨rfl, hw2⟩
      subst hw2
      go_wp2_with fail
      go_end0
      refine ⟨rfl, ?_, Fr.setCell (Fr.setCell (Fr.setCell (Fr.setCell (Fr.refl _ _) (fun _ => Or.inl rfl) _) (fun _ => Or.inl rfl) _) (fun _ => Or.inl rfl) _) (fun _ => Or.inl rfl) _⟩
      rw [HU.out]
      have h9 := (((HO.out.setP (p + 1)).setC (c + v * 512)).setT 7).setC d
      rw [show ((c + v * 512 : Nat) : Int) = (c : Int) + (v : Int) * 512 by omega, show ((p + 1 : Nat) : Int) = (p : Int) + 1 by omega] at h9
      exact h9
  · obtain ⟨d, HD⟩ : ∃ d, Hid (d = (c + v * 256) % 4294967296) := ⟨_, rfl⟩
    have hd : bits BinOp.and IntKind.i64 ((c : Int) + (v : Int) * 256) 4294967295 = (d : Int) := by
      have := HAnd.out (c + v * 256) (by omega)
      rw [show ((c + v * 256 : Nat) : Int) = (c : Int) + (v : Int) * 256 by omega] at this
      rw [HD.out]; exact this
    have hu5 : ((u : Int) == 255) = false := by rw [beq_eq_false_iff_ne]; omega
    rw [if_pos h1, ← HD.out] at HU
    go_enter Try.func74, Try.ntmps74
    go_wp2_with fail
    refine HN1.out.mono ?_
    rintro e w1 ⟨rfl, hw1⟩
    subst hw1
    go_wp2_with fail
    go_region_with (first | (go_at_call 73; refine (HN3.out _ (by repeat (first | with_reducible exact Fr.refl _ _ | with_reducible refine Fr.drew ?_))).mono ?_; rintro e w2 ⟨rfl, rfl⟩))
    all_goals
      go_wp2_with fail
      go_end0
      refine ⟨rfl, ?_, (Fr.setCell (Fr.setCell (Fr.setCell (Fr.setCell (Fr.refl _ _) (fun _ => Or.inl rfl) _) (fun _ => Or.inl rfl) _) (fun _ => Or.inl rfl) _) (fun _ => Or.inl rfl) _).drew⟩
      rw [HU.out]
      have h9 := (((HO.out.setP (p + 1)).setC (c + v * 256)).setT 8).setC d
      rw [show ((c + v * 256 : Nat) : Int) = (c : Int) + (v : Int) * 256 by omega, show ((p + 1 : Nat) : Int) = (p : Int) + 1 by omega] at h9
      exact h9.keptAll ((Fr.refl _ _).drew)

end Go.Proofs.Ytkggdnkmaldmlaa

/- The reference's decoder renewed. -/
namespace Go.Proofs.Ytkggdnkmaldmlaa
open Go.RowKit

theorem RdStep.trans {br gs gz : Nat} {w w1 w2 : World} (h : RdStep br gs gz w w1) (k : RdStep br gs gz w1 w2) : RdStep br gs gz w w2 := Fr.trans h k (fun _ _ e => e)
/-- Between two rounds of the renewal. -/
structure RdRen (w wr : World) (br gt ct gs gz n : Nat) (vb : Value) (B : List Nat) (o : De) (s : Ds) (f : Nat) : Prop where
  at_ : RdAt wr br gt ct gs gz n vb B { o with s := s }
  step : RdStep br gs gz w wr
  dw : Dw B s
  lt : s.a < 32768
  fuel : 32768 ≤ s.a * 2 ^ f
  eq : renewD B f s = renewD B 16 o.s

theorem RdRen.next {w wr w2 : World} {br gt ct gs gz n f : Nat} {vb : Value} {B : List Nat} {o : De} {s : Ds} {u v : Value} (h : RdRen w wr br gt ct gs gz n vb B o s f) (hco : RdAt w2 br gt ct gs gz n vb B { o with s := doubledD B s }) (hst : RdStep br gs gz wr w2) :
    ((∃ s f, RdRen w w2 br gt ct gs gz n vb B o s f) ∨ (RdAt w2 br gt ct gs gz n vb B { o with s := renewD B 16 o.s } ∧ RdStep br gs gz w w2 ∧ 32768 ≤ (renewD B 16 o.s).a ∧ (renewD B 16 o.s).a < 65536)) ∧ rrenMeas br u w2 < rrenMeas br v wr := by
  have ha := h.dw.apos
  have hlt := h.lt
  obtain ⟨k, rfl⟩ : ∃ k, f = k + 1 := by
    cases f with
    | zero => have := h.fuel; omega
    | succ k => exact ⟨k, rfl⟩
  have e2 := (cell_of_nine h.at_.blk).2.2.2.2.1
  have q2 := (cell_of_nine hco.blk).2.2.2.2.1
  have hm : rrenMeas br v wr = 65537 - s.a := by simp [rrenMeas, e2, intOf]
  obtain ⟨hdw, hda⟩ := doubledD_dw h.dw hlt
  have hm2 : rrenMeas br u w2 = 65537 - (doubledD B s).a := by simp [rrenMeas, q2, intOf]
  refine ⟨?_, by rw [hm, hm2]; omega⟩
  by_cases hh : (doubledD B s).a < 32768
  · refine Or.inl ⟨doubledD B s, k, hco, h.step.trans hst, hdw, hh, ?_, ?_⟩
    · have := h.fuel
      rw [hda, Nat.mul_comm 2, Nat.mul_assoc, Nat.mul_comm 2, ← Nat.pow_succ]; exact this
    · rw [← h.eq]; conv => rhs; rw [renewD, if_pos hh]
  · have e : renewD B 16 o.s = doubledD B s := by rw [← h.eq, renewD, if_neg hh]
    refine Or.inr ⟨?_, h.step.trans hst, ?_, ?_⟩
    · rw [e]; exact hco
    · rw [e]; omega
    · rw [e]; omega

set_option maxRecDepth 100000 in
set_option maxHeartbeats 4000000 in
theorem rrenewD_any (w : World) (br gt ct gs gz n : Nat) (vb : Value) (B : List Nat) (o : De) (h : RdAt w br gt ct gs gz n vb B o) (hB : ∀ y ∈ B, y < 256) (hw : Dw B o.s) (hlt : o.s.a < 32768) :
    Calls Try.prog 92 #[.pointer (some ⟨br, 0, none⟩)] w fun e w' => e = .returned (.tuple #[]) ∧ RdAt w' br gt ct gs gz n vb B { o with s := renewD B 16 o.s } ∧ RdStep br gs gz w w' := by
  have H0 : Hid (RdRen w w br gt ct gs gz n vb B o o.s 16) := ⟨h, Fr.refl _ _, hw, hlt, by have := hw.apos; omega, rfl⟩
  have HB : Hid (∀ y ∈ B, y < 256) := hB
  have HAnd : Hid (∀ m : Nat, m < 8589934592 → bits BinOp.and IntKind.i64 (m : Int) 4294967295 = ((m % 4294967296 : Nat) : Int)) := fun m hm => band64r m 32 (by omega) (by decide)
  clear h hw hlt hB
  go_enter Try.func92, Try.ntmps92
  go_wp2_with fail
  go_loopw [2] (fun i wr => (∃ b, i = .bool b) ∧ ((∃ s f, RdRen w wr br gt ct gs gz n vb B o s f) ∨ (i = .bool false ∧ RdAt wr br gt ct gs gz n vb B { o with s := renewD B 16 o.s } ∧ RdStep br gs gz w wr ∧ 32768 ≤ (renewD B 16 o.s).a ∧ (renewD B 16 o.s).a < 65536))) (rrenMeas br)
  case atStart => exact ⟨⟨true, rfl⟩, Or.inl ⟨_, _, H0.out⟩⟩
  case round =>
    obtain ⟨⟨bb, rfl⟩, hrel⟩ := hrel
    rcases hrel with ⟨s, f, hr⟩ | ⟨hbf, hco, hst, h1, h2⟩
    · obtain ⟨e0, e1, e2, e3, e4, e5, e6, e7, e8, ef⟩ := cell_of_nine hr.at_.blk
      have HR : Hid (RdRen w wr br gt ct gs gz n vb B o s f) := hr
      have hlt := hr.lt
      have hct := hr.dw.clt
      have htl := hr.dw.tlt
      have hbc : br < wr.heap.size := hr.at_.lt
      clear hr
      by_cases ht : s.t = 0
      · have ht0 : ((s.t : Int) == 0) = true := by rw [beq_iff_eq]; omega
        have HIn : Hid (Calls Try.prog 74 #[.pointer (some ⟨br, 0, none⟩)] wr fun e w' => e = .returned (.tuple #[]) ∧ RdAt w' br gt ct gs gz n vb B { o with s := inD B s } ∧ RdStep br gs gz wr w') := rin_any wr br gt ct gs gz n vb B { o with s := s } HR.out.at_ HB.out HR.out.dw
        obtain ⟨hiw, hia, hit⟩ := inD_dw HR.out.dw
        have HE : Hid (doubledD B s = { a := 2 * (inD B s).a, c := 2 * (inD B s).c % 4294967296, t := (inD B s).t - 1, p := (inD B s).p }) := by show _ = _; simp [doubledD, inZ, ht, twice]
        have hcl := hiw.clt
        have htl2 := hiw.tlt
        have ha1 : (inD B s).a < 32768 := by omega
        simp only [] at e4 e6
        obtain ⟨a0, Ha0⟩ : ∃ a0, Hid (a0 = s.a) := ⟨_, rfl⟩
        rw [← Ha0.out] at e4 hlt
        have hda : decide ((a0 : Int) < 32768) = true := decide_eq_true (by omega)
        clear hiw hia e0 e1 e2 e3 e5 e7 e8 ef
        cases bb
        all_goals
          go_wp2_with fail
          refine HIn.out.mono ?_
          rintro e w1 ⟨rfl, hc1, hs1⟩
          have HC1 : Hid (RdAt w1 br gt ct gs gz n vb B { o with s := inD B s }) := hc1
          have HS1 : Hid (RdStep br gs gz wr w1) := hs1
          obtain ⟨q0, q1, q2, q3, q4, q5, q6, q7, q8, qf⟩ := cell_of_nine hc1.blk
          clear hc1 hs1
          simp only [] at q0 q1 q2 q3 q4 q5 q6 q7 q8
          have hbl1 := HC1.out.lt
          generalize inD B s = s2 at *
          obtain ⟨a, c, t, p⟩ := s2
          simp only [] at *
          obtain ⟨d, HD⟩ : ∃ d, Hid (d = 2 * c % 4294967296) := ⟨_, rfl⟩
          have hd : bits BinOp.and IntKind.i64 (2 * (c : Int)) 4294967295 = (d : Int) := by
            have := HAnd.out (2 * c) (by omega)
            rw [HD.out]; exact this
          have HC : Hid (RdAt (((w1.setCell ⟨br, 4, none⟩ (.int .i64 (2 * (a : Int)))).setCell ⟨br, 5, none⟩ (.int .i64 (d : Int))).setCell ⟨br, 6, none⟩ (.int .i64 ((t : Int) - 1))) br gt ct gs gz n vb B { o with s := doubledD B s }) := by
            have := ((HC1.out.setA (2 * a)).setC d).setT (t - 1)
            rw [show ((2 * a : Nat) : Int) = 2 * (a : Int) by omega, show ((t - 1 : Nat) : Int) = (t : Int) - 1 by omega] at this
            rw [HE.out, ← HD.out]
            exact this
          have HFr : Hid (RdStep br gs gz wr (((w1.setCell ⟨br, 4, none⟩ (.int .i64 (2 * (a : Int)))).setCell ⟨br, 5, none⟩ (.int .i64 (d : Int))).setCell ⟨br, 6, none⟩ (.int .i64 ((t : Int) - 1)))) := HS1.out.trans (Fr.setCell (Fr.setCell (Fr.setCell (Fr.refl _ _) (fun _ => Or.inl rfl) _) (fun _ => Or.inl rfl) _) (fun _ => Or.inl rfl) _)
          go_wp2_with fail
          obtain ⟨r1, r2⟩ := RdRen.next (u := .bool false) (v := .bool true) HR.out HC.out HFr.out
          refine ⟨⟨⟨false, rfl⟩, ?_⟩, r2⟩
          rcases r1 with r | x3
          · exact Or.inl r
          · exact Or.inr ⟨rfl, x3⟩
      · have ht0 : ((s.t : Int) == 0) = false := by rw [beq_eq_false_iff_ne]; omega
        have HE : Hid (doubledD B s = { a := 2 * s.a, c := 2 * s.c % 4294967296, t := s.t - 1, p := s.p }) := by show _ = _; simp [doubledD, inZ, ht, twice]
        obtain ⟨a, c, t, p⟩ := s
        simp only [] at *
        have hda : decide ((a : Int) < 32768) = true := decide_eq_true (by omega)
        obtain ⟨d, HD⟩ : ∃ d, Hid (d = 2 * c % 4294967296) := ⟨_, rfl⟩
        have hd : bits BinOp.and IntKind.i64 (2 * (c : Int)) 4294967295 = (d : Int) := by
          have := HAnd.out (2 * c) (by omega)
          rw [HD.out]; exact this
        have HC : Hid (RdAt (((wr.setCell ⟨br, 4, none⟩ (.int .i64 (2 * (a : Int)))).setCell ⟨br, 5, none⟩ (.int .i64 (d : Int))).setCell ⟨br, 6, none⟩ (.int .i64 ((t : Int) - 1))) br gt ct gs gz n vb B { o with s := doubledD B { a := a, c := c, t := t, p := p } }) := by
          have := ((HR.out.at_.setA (2 * a)).setC d).setT (t - 1)
          rw [show ((2 * a : Nat) : Int) = 2 * (a : Int) by omega, show ((t - 1 : Nat) : Int) = (t : Int) - 1 by omega] at this
          rw [HE.out, ← HD.out]
          exact this
        have HFr : Hid (RdStep br gs gz wr (((wr.setCell ⟨br, 4, none⟩ (.int .i64 (2 * (a : Int)))).setCell ⟨br, 5, none⟩ (.int .i64 (d : Int))).setCell ⟨br, 6, none⟩ (.int .i64 ((t : Int) - 1)))) := Fr.setCell (Fr.setCell (Fr.setCell (Fr.refl _ _) (fun _ => Or.inl rfl) _) (fun _ => Or.inl rfl) _) (fun _ => Or.inl rfl) _
        cases bb
        all_goals
          go_wp2_with fail
          obtain ⟨r1, r2⟩ := RdRen.next (u := .bool false) (v := .bool true) HR.out HC.out HFr.out
          refine ⟨⟨⟨false, rfl⟩, ?_⟩, r2⟩
          rcases r1 with r | x3
          · exact Or.inl r
          · exact Or.inr ⟨rfl, x3⟩
    · simp only [Value.bool.injEq] at hbf
      subst hbf
      obtain ⟨e0, e1, e2, e3, e4, e5, e6, e7, e8, ef⟩ := cell_of_nine hco.blk
      have HF : Hid (RdAt wr br gt ct gs gz n vb B { o with s := renewD B 16 o.s } ∧ RdStep br gs gz w wr) := ⟨hco, hst⟩
      simp only [] at e4
      obtain ⟨a, Ha⟩ : ∃ a, Hid (a = (renewD B 16 o.s).a) := ⟨_, rfl⟩
      rw [← Ha.out] at e4 h1 h2
      have hda : decide ((a : Int) < 32768) = false := decide_eq_false (by omega)
      have HA1 : Hid (32768 ≤ a) := h1
      clear hco hst e0 e1 e2 e3 e5 e6 e7 e8 h1
      go_wp2_with fail
      go_end0
      exact ⟨rfl, HF.out⟩

end Go.Proofs.Ytkggdnkmaldmlaa
