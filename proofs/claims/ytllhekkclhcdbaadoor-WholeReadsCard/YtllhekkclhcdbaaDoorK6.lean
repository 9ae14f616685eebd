/- The reference's decoder in memory: over the same plain decoder. -/
import Derived.Test.YtllhekkclhcdbaaDoorKReP
import Derived.Test.YtllhekkclhcdbaaDoorKDren
import Derived.BigQuiet
namespace Go.Proofs.YtllhekkclhcdbaaDoor
open Go.RowKit

/-- A decoder of the reference: its block br, its table gt, its states gs, its likelier bits gz, its bytes vb. -/
structure RdAt (w : World) (br gt ct gs gz n : Nat) (vb : Value) (B : List Nat) (o : De) : Prop where
  blk : w.heap[br]? = some (.cells #[.slice (some ⟨gt, 0, none⟩) 47 ct, .slice (some ⟨gs, 0, none⟩) n n, .slice (some ⟨gz, 0, none⟩) n n, .int .i64 (o.made : Nat), .int .i64 (o.s.a : Nat), .int .i64 (o.s.c : Nat), .int .i64 (o.s.t : Nat), vb, .int .i64 (o.s.p : Nat)] 107 (0, 0))
  tab : w.ownsRow 0 117 4 (.slice (some ⟨gt, 0, none⟩) 47 ct) 47 (tabCells 47)
  st : w.ownsRow 0 3 1 (.slice (some ⟨gs, 0, none⟩) n n) n (intCells (o.x.map (· / 2)))
  bt : w.ownsRow 0 3 1 (.slice (some ⟨gz, 0, none⟩) n n) n (intCells (o.x.map (· % 2)))
  bs : w.ownsRow 0 5 1 vb B.length (byteCells B)
  lim : B.length ≤ 140737488355328
  ne : gs ≠ gz
  len : o.x.length = n

theorem RdAt.lt {w : World} {br gt ct gs gz n : Nat} {vb : Value} {B : List Nat} {o : De} (h : RdAt w br gt ct gs gz n vb B o) : br < w.heap.size := lt_of_block h.blk
theorem RdAt.kept {w w' : World} {br gt ct gs gz n : Nat} {vb : Value} {B : List Nat} {o : De} {S : Nat → Prop} (h : RdAt w br gt ct gs gz n vb B o) (f : Fr S w w') (h1 : ¬ S br) (h2 : ¬ S gt) (h3 : ¬ S gs) (h4 : ¬ S gz) (h5 : ∀ k, vb.ownBlock = some k → ¬ S k) : RdAt w' br gt ct gs gz n vb B o :=
  ⟨by rw [f.block br h.lt h1]; exact h.blk, row_kept1 h.tab f h2, row_kept1 h.st f h3, row_kept1 h.bt f h4, row_kept h.bs f h5, h.lim, h.ne, h.len⟩
theorem RdAt.keptAll {w w' : World} {br gt ct gs gz n : Nat} {vb : Value} {B : List Nat} {o : De} (h : RdAt w br gt ct gs gz n vb B o) (f : Fr (fun _ => False) w w') : RdAt w' br gt ct gs gz n vb B o := h.kept f (fun h => h) (fun h => h) (fun h => h) (fun h => h) (fun _ _ h => h)
theorem RdAt.nes {w : World} {br gt ct gs gz n : Nat} {vb : Value} {B : List Nat} {o : De} (h : RdAt w br gt ct gs gz n vb B o) : gt ≠ br ∧ gs ≠ br ∧ gz ≠ br ∧ (∀ k, vb.ownBlock = some k → k ≠ br ∧ k ≠ gt ∧ k ≠ gs ∧ k ≠ gz) ∧ gs ≠ gt ∧ gz ≠ gt :=
  ⟨row_nb h.tab rfl h.blk (by decide), row_nb h.st rfl h.blk (by decide), row_nb h.bt rfl h.blk (by decide), fun k hk => ⟨row_nb h.bs hk h.blk (by decide), row_ne h.bs h.tab hk rfl (by decide), row_ne h.bs h.st hk rfl (by decide), row_ne h.bs h.bt hk rfl (by decide)⟩, row_ne h.st h.tab rfl rfl (by decide), row_ne h.bt h.tab rfl rfl (by decide)⟩

theorem RdAt.reg {w : World} {br gt ct gs gz n : Nat} {vb : Value} {B : List Nat} {o o' : De} (h : RdAt w br gt ct gs gz n vb B o) (j : Nat) (u : Value) (hx : o'.x = o.x)
    (hb : (#[.slice (some ⟨gt, 0, none⟩) 47 ct, .slice (some ⟨gs, 0, none⟩) n n, .slice (some ⟨gz, 0, none⟩) n n, .int .i64 (o.made : Nat), .int .i64 (o.s.a : Nat), .int .i64 (o.s.c : Nat), .int .i64 (o.s.t : Nat), vb, .int .i64 (o.s.p : Nat)] : Array Value).setIfInBounds j u = #[.slice (some ⟨gt, 0, none⟩) 47 ct, .slice (some ⟨gs, 0, none⟩) n n, .slice (some ⟨gz, 0, none⟩) n n, .int .i64 (o'.made : Nat), .int .i64 (o'.s.a : Nat), .int .i64 (o'.s.c : Nat), .int .i64 (o'.s.t : Nat), vb, .int .i64 (o'.s.p : Nat)]) :
    RdAt (w.setCell ⟨br, j, none⟩ u) br gt ct gs gz n vb B o' := by
  have f := Fr.set1 w br j u
  obtain ⟨n1, n2, n3, n4, _⟩ := h.nes
  refine ⟨?_, row_kept1 h.tab f n1, ?_, ?_, row_kept h.bs f (fun k hk => (n4 k hk).1), h.lim, h.ne, by rw [hx]; exact h.len⟩
  · rw [seven_set h.blk, hb]
  · rw [hx]; exact row_kept1 h.st f n2
  · rw [hx]; exact row_kept1 h.bt f n3
theorem RdAt.setMade {w : World} {br gt ct gs gz n : Nat} {vb : Value} {B : List Nat} {o : De} (h : RdAt w br gt ct gs gz n vb B o) (v : Nat) : RdAt (w.setCell ⟨br, 3, none⟩ (.int .i64 (v : Int))) br gt ct gs gz n vb B { o with made := v } := h.reg 3 _ rfl rfl
theorem RdAt.setA {w : World} {br gt ct gs gz n : Nat} {vb : Value} {B : List Nat} {o : De} (h : RdAt w br gt ct gs gz n vb B o) (v : Nat) : RdAt (w.setCell ⟨br, 4, none⟩ (.int .i64 (v : Int))) br gt ct gs gz n vb B { o with s := { o.s with a := v } } := h.reg 4 _ rfl rfl
theorem RdAt.setC {w : World} {br gt ct gs gz n : Nat} {vb : Value} {B : List Nat} {o : De} (h : RdAt w br gt ct gs gz n vb B o) (v : Nat) : RdAt (w.setCell ⟨br, 5, none⟩ (.int .i64 (v : Int))) br gt ct gs gz n vb B { o with s := { o.s with c := v } } := h.reg 5 _ rfl rfl
theorem RdAt.setT {w : World} {br gt ct gs gz n : Nat} {vb : Value} {B : List Nat} {o : De} (h : RdAt w br gt ct gs gz n vb B o) (v : Nat) : RdAt (w.setCell ⟨br, 6, none⟩ (.int .i64 (v : Int))) br gt ct gs gz n vb B { o with s := { o.s with t := v } } := h.reg 6 _ rfl rfl
theorem RdAt.setP {w : World} {br gt ct gs gz n : Nat} {vb : Value} {B : List Nat} {o : De} (h : RdAt w br gt ct gs gz n vb B o) (v : Nat) : RdAt (w.setCell ⟨br, 8, none⟩ (.int .i64 (v : Int))) br gt ct gs gz n vb B { o with s := { o.s with p := v } } := h.reg 8 _ rfl rfl

set_option maxRecDepth 100000 in
set_option maxHeartbeats 1000000 in
theorem rbyte_any (w : World) (br gt ct gs gz n : Nat) (vb : Value) (B : List Nat) (o : De) (h : RdAt w br gt ct gs gz n vb B o) (hB : ∀ y ∈ B, y < 256) (i : Nat) (hi : i ≤ 140737488355329) :
    Calls Tryd.prog 58 #[.pointer (some ⟨br, 0, none⟩), .int .i64 i] w fun e w' => e = .returned (.int .i64 (byteD B i : Nat)) ∧ w' = w := by
  obtain ⟨e0, e1, e2, e3, e4, e5, e6, e7, e8, ef⟩ := cell_of_nine h.blk
  have hlim := h.lim
  obtain ⟨n2, Hn⟩ : ∃ n2, Hid (n2 = B.length) := ⟨_, rfl⟩
  have hb := h.bs
  rw [← Hn.out] at hb hlim
  clear h e0 e1 e2 e3 e4 e5 e6 e8 ef
  by_cases hin : i < n2
  · obtain ⟨g, cap, rfl, _, hc, hm⟩ := row_form hb (by omega)
    have c := hb.cellAt i (by omega)
    have hv : (byteCells B)[i]? = some (.int .u8 (byteD B i : Nat)) := by
      rw [byteCells_get, byteD, List.getD_eq_getElem?_getD, List.getElem?_eq_getElem (by have := Hn.out; omega)]; rfl
    rw [hv] at c
    obtain ⟨v, HV⟩ : ∃ v, Hid (v = byteD B i) := ⟨_, rfl⟩
    have hv2 : v < 256 := by rw [HV.out]; exact byteD_lt hB i
    rw [← HV.out] at c ⊢
    clear hb hv
    go_enter Tryd.func58, Tryd.ntmps58
    go_wp2_with fail
    go_ret
    exact ⟨rfl, rfl⟩
  · have hv : byteD B i = 255 := byteD_past (by have := Hn.out; omega)
    rw [hv]
    rcases hb.2 with ⟨rfl, e⟩ | ⟨g, cap, cur, rfl, _, _, hc, hm, _⟩
    · clear hb
      go_enter Tryd.func58, Tryd.ntmps58
      go_wp2_with fail
      go_ret
      exact ⟨rfl, rfl⟩
    · clear hb
      go_enter Tryd.func58, Tryd.ntmps58
      go_wp2_with fail
      go_ret
      exact ⟨rfl, rfl⟩

end Go.Proofs.YtllhekkclhcdbaaDoor

/- The reference's decoder: a byte comes in. -/
namespace Go.Proofs.YtllhekkclhcdbaaDoor
open Go.RowKit

/-- What a step of it may touch. -/
abbrev RdStep (br gs gz : Nat) (w w' : World) : Prop := Fr (fun k => k = br ∨ k = gs ∨ k = gz) w w'

set_option maxRecDepth 100000 in
set_option maxHeartbeats 2000000 in
theorem rin_any (w : World) (br gt ct gs gz n : Nat) (vb : Value) (B : List Nat) (o : De) (h : RdAt w br gt ct gs gz n vb B o) (hB : ∀ y ∈ B, y < 256) (hw : Dw B o.s) :
    Calls Tryd.prog 59 #[.pointer (some ⟨br, 0, none⟩)] w fun e w' => e = .returned (.tuple #[]) ∧ RdAt w' br gt ct gs gz n vb B { o with s := inD B o.s } ∧ RdStep br gs gz w w' := by
  obtain ⟨e0, e1, e2, e3, e4, e5, e6, e7, e8, ef⟩ := cell_of_nine h.blk
  have HO : Hid (RdAt w br gt ct gs gz n vb B o) := h
  have hp := hw.plt
  have hlim := h.lim
  have hc := hw.clt
  have HBB : Hid (∀ y ∈ B, y < 256) := hB
  have hbl := h.lt
  obtain ⟨⟨a, c, t, p⟩, x, made⟩ := o
  simp only [] at *
  have hlt1 := byteD_lt hB p
  have hlt2 := byteD_lt hB (p + 1)
  have HU : Hid (inD B { a := a, c := c, t := t, p := p } = if byteD B p ≠ 255 then { a := a, c := (c + byteD B (p + 1) * 256) % 4294967296, t := 8, p := p + 1 } else if 143 < byteD B (p + 1) then { a := a, c := (c + 65280) % 4294967296, t := 8, p := p } else { a := a, c := (c + byteD B (p + 1) * 512) % 4294967296, t := 7, p := p + 1 }) := rfl
  have HN1 : Hid (Calls Tryd.prog 58 #[.pointer (some ⟨br, 0, none⟩), .int .i64 (p : Int)] w fun e w' => e = .returned (.int .i64 (byteD B p : Nat)) ∧ w' = w) := rbyte_any w br gt ct gs gz n vb B _ HO.out HBB.out p (by omega)
  have HN2 : Hid (Calls Tryd.prog 58 #[.pointer (some ⟨br, 0, none⟩), .int .i64 ((p : Int) + 1)] w fun e w' => e = .returned (.int .i64 (byteD B (p + 1) : Nat)) ∧ w' = w) := rbyte_any w br gt ct gs gz n vb B _ HO.out HBB.out (p + 1) (by omega)
  have HN3 : Hid (∀ w', Fr (fun _ => False) (w.setCell ⟨br, 8, none⟩ (.int .i64 ((p : Int) + 1))) w' → Calls Tryd.prog 58 #[.pointer (some ⟨br, 0, none⟩), .int .i64 ((p : Int) + 1)] w' fun e w'' => e = .returned (.int .i64 (byteD B (p + 1) : Nat)) ∧ w'' = w') := fun w' f => by
    have h3 := HO.out.setP (p + 1)
    rw [show ((p + 1 : Nat) : Int) = (p : Int) + 1 by omega] at h3
    exact rbyte_any _ br gt ct gs gz n vb B _ (h3.keptAll f) HBB.out (p + 1) (by omega)
  clear h hw hB
  obtain ⟨u, hu⟩ : ∃ u, u = byteD B p := ⟨_, rfl⟩
  obtain ⟨v, hv⟩ : ∃ v, v = byteD B (p + 1) := ⟨_, rfl⟩
  rw [← hu] at hlt1 HU HN1
  rw [← hv] at hlt2 HU HN2 HN3
  clear hu hv
  have hand : ∀ m : Nat, m < 8589934592 → bits BinOp.and IntKind.i64 (m : Int) 4294967295 = ((m % 4294967296 : Nat) : Int) := fun m hm => band64 m 32 (by omega) (by decide)
  have HAnd : Hid (∀ m : Nat, m < 8589934592 → bits BinOp.and IntKind.i64 (m : Int) 4294967295 = ((m % 4294967296 : Nat) : Int)) := hand
  clear hand
  by_cases h1 : u = 255
  · subst h1
    by_cases h2 : 143 < v
    · obtain ⟨d, HD⟩ : ∃ d, Hid (d = (c + 65280) % 4294967296) := ⟨_, rfl⟩
      have hd : bits BinOp.and IntKind.i64 ((c : Int) + 65280) 4294967295 = (d : Int) := by
        have := HAnd.out (c + 65280) (by omega)
        rw [HD.out]; exact this
      rw [if_neg (by simp), if_pos h2, ← HD.out] at HU
      go_enter Tryd.func59, Tryd.ntmps59
      go_wp2_with fail
      refine HN1.out.mono ?_
      rintro e w1 ⟨rfl, hw1⟩
      subst hw1
      go_wp2_with fail
      refine HN2.out.mono ?_
      rintro e w2 ⟨rfl, hw2⟩
      subst hw2
      go_wp2_with fail
      go_end0
      refine ⟨rfl, ?_, Fr.setCell (Fr.setCell (Fr.setCell (Fr.refl _ _) (fun _ => Or.inl rfl) _) (fun _ => Or.inl rfl) _) (fun _ => Or.inl rfl) _⟩
      rw [HU.out]
      have h9 := ((HO.out.setC (c + 65280)).setT 8).setC d
      rw [show ((c + 65280 : Nat) : Int) = (c : Int) + 65280 by omega] at h9
      exact h9
    · obtain ⟨d, HD⟩ : ∃ d, Hid (d = (c + v * 512) % 4294967296) := ⟨_, rfl⟩
      have hd : bits BinOp.and IntKind.i64 ((c : Int) + (v : Int) * 512) 4294967295 = (d : Int) := by
        have := HAnd.out (c + v * 512) (by omega)
        rw [show ((c + v * 512 : Nat) : Int) = (c : Int) + (v : Int) * 512 by omega] at this
        rw [HD.out]; exact this
      rw [if_neg (by simp), if_neg h2, ← HD.out] at HU
      go_enter Tryd.func59, Tryd.ntmps59
      go_wp2_with fail
      refine HN1.out.mono ?_
      rintro e w1 ⟨rfl, hw1⟩
      subst hw1
      go_wp2_with fail
      refine HN2.out.mono ?_
      rintro e w2 ⟨rfl, hw2⟩
      subst hw2
      go_wp2_with fail
      go_end0
      refine ⟨rfl, ?_, Fr.setCell (Fr.setCell (Fr.setCell (Fr.setCell (Fr.refl _ _) (fun _ => Or.inl rfl) _) (fun _ => Or.inl rfl) _) (fun _ => Or.inl rfl) _) (fun _ => Or.inl rfl) _⟩
      rw [HU.out]
      have h9 := (((HO.out.setP (p + 1)).setC (c + v * 512)).setT 7).setC d
      rw [show ((c + v * 512 : Nat) : Int) = (c : Int) + (v : Int) * 512 by omega, show ((p + 1 : Nat) : Int) = (p : Int) + 1 by omega] at h9
      exact h9
  · obtain ⟨d, HD⟩ : ∃ d, Hid (d = (c + v * 256) % 4294967296) := ⟨_, rfl⟩
    have hd : bits BinOp.and IntKind.i64 ((c : Int) + (v : Int) * 256) 4294967295 = (d : Int) := by
      have := HAnd.out (c + v * 256) (by omega)
      rw [show ((c + v * 256 : Nat) : Int) = (c : Int) + (v : Int) * 256 by omega] at this
      rw [HD.out]; exact this
    have hu5 : ((u : Int) == 255) = false := by rw [beq_eq_false_iff_ne]; omega
    rw [if_pos h1, ← HD.out] at HU
    go_enter Tryd.func59, Tryd.ntmps59
    go_wp2_with fail
    refine HN1.out.mono ?_
    rintro e w1 ⟨rfl, hw1⟩
    subst hw1
    go_wp2_with fail
    go_region_with (first | (go_at_call 58; refine (HN3.out _ (by repeat (first | with_reducible exact Fr.refl _ _ | with_reducible refine Fr.drew ?_))).mono ?_; rintro e w2 ⟨rfl, rfl⟩))
    all_goals
      go_wp2_with fail
      go_end0
      refine ⟨rfl, ?_, (Fr.setCell (Fr.setCell (Fr.setCell (Fr.setCell (Fr.refl _ _) (fun _ => Or.inl rfl) _) (fun _ => Or.inl rfl) _) (fun _ => Or.inl rfl) _) (fun _ => Or.inl rfl) _).drew⟩
      rw [HU.out]
      have h9 := (((HO.out.setP (p + 1)).setC (c + v * 256)).setT 8).setC d
      rw [show ((c + v * 256 : Nat) : Int) = (c : Int) + (v : Int) * 256 by omega, show ((p + 1 : Nat) : Int) = (p : Int) + 1 by omega] at h9
      exact h9.keptAll ((Fr.refl _ _).drew)

end Go.Proofs.YtllhekkclhcdbaaDoor

/- The reference's decoder renewed. -/
namespace Go.Proofs.YtllhekkclhcdbaaDoor
open Go.RowKit

theorem RdStep.trans {br gs gz : Nat} {w w1 w2 : World} (h : RdStep br gs gz w w1) (k : RdStep br gs gz w1 w2) : RdStep br gs gz w w2 := Fr.trans h k (fun _ _ e => e)
/-- Between two rounds of the renewal. -/
structure RdRen (w wr : World) (br gt ct gs gz n : Nat) (vb : Value) (B : List Nat) (o : De) (s : Ds) (f : Nat) : Prop where
  at_ : RdAt wr br gt ct gs gz n vb B { o with s := s }
  step : RdStep br gs gz w wr
  dw : Dw B s
  lt : s.a < 32768
  fuel : 32768 ≤ s.a * 2 ^ f
  eq : renewD B f s = renewD B 16 o.s

theorem RdRen.next {w wr w2 : World} {br gt ct gs gz n f : Nat} {vb : Value} {B : List Nat} {o : De} {s : Ds} {u v : Value} (h : RdRen w wr br gt ct gs gz n vb B o s f) (hco : RdAt w2 br gt ct gs gz n vb B { o with s := doubledD B s }) (hst : RdStep br gs gz wr w2) :
    ((∃ s f, RdRen w w2 br gt ct gs gz n vb B o s f) ∨ (RdAt w2 br gt ct gs gz n vb B { o with s := renewD B 16 o.s } ∧ RdStep br gs gz w w2 ∧ 32768 ≤ (renewD B 16 o.s).a ∧ (renewD B 16 o.s).a < 65536)) ∧ rrenMeas br u w2 < rrenMeas br v wr := by
  have ha := h.dw.apos
  have hlt := h.lt
  obtain ⟨k, rfl⟩ : ∃ k, f = k + 1 := by
    cases f with
    | zero => have := h.fuel; omega
    | succ k => exact ⟨k, rfl⟩
  have e2 := (cell_of_nine h.at_.blk).2.2.2.2.1
  have q2 := (cell_of_nine hco.blk).2.2.2.2.1
  have hm : rrenMeas br v wr = 65537 - s.a := by simp [rrenMeas, e2, intOf]
  obtain ⟨hdw, hda⟩ := doubledD_dw h.dw hlt
  have hm2 : rrenMeas br u w2 = 65537 - (doubledD B s).a := by simp [rrenMeas, q2, intOf]
  refine ⟨?_, by rw [hm, hm2]; omega⟩
  by_cases hh : (doubledD B s).a < 32768
  · refine Or.inl ⟨doubledD B s, k, hco, h.step.trans hst, hdw, hh, ?_, ?_⟩
    · have := h.fuel
      rw [hda, Nat.mul_comm 2, Nat.mul_assoc, Nat.mul_comm 2, ← Nat.pow_succ]; exact this
    · rw [← h.eq]; conv => rhs; rw [renewD, if_pos hh]
  · have e : renewD B 16 o.s = doubledD B s := by rw [← h.eq, renewD, if_neg hh]
    refine Or.inr ⟨?_, h.step.trans hst, ?_, ?_⟩
    · rw [e]; exact hco
    · rw [e]; omega
    · rw [e]; omega

set_option maxRecDepth 100000 in
set_option maxHeartbeats 4000000 in
theorem rrenewD_any (w : World) (br gt ct gs gz n : Nat) (vb : Value) (B : List Nat) (o : De) (h : RdAt w br gt ct gs gz n vb B o) (hB : ∀ y ∈ B, y < 256) (hw : Dw B o.s) (hlt : o.s.a < 32768) :
    Calls Tryd.prog 80 #[.pointer (some ⟨br, 0, none⟩)] w fun e w' => e = .returned (.tuple #[]) ∧ RdAt w' br gt ct gs gz n vb B { o with s := renewD B 16 o.s } ∧ RdStep br gs gz w w' := by
  have H0 : Hid (RdRen w w br gt ct gs gz n vb B o o.s 16) := ⟨h, Fr.refl _ _, hw, hlt, by have := hw.apos; omega, rfl⟩
  have HB : Hid (∀ y ∈ B, y < 256) := hB
  have HAnd : Hid (∀ m : Nat, m < 8589934592 → bits BinOp.and IntKind.i64 (m : Int) 4294967295 = ((m % 4294967296 : Nat) : Int)) := fun m hm => band64 m 32 (by omega) (by decide)
  clear h hw hlt hB
  go_enter Tryd.func80, Tryd.ntmps80
  go_wp2_with fail
  go_loopw [2] (fun i wr => (∃ b, i = .bool b) ∧ ((∃ s f, RdRen w wr br gt ct gs gz n vb B o s f) ∨ (i = .bool false ∧ RdAt wr br gt ct gs gz n vb B { o with s := renewD B 16 o.s } ∧ RdStep br gs gz w wr ∧ 32768 ≤ (renewD B 16 o.s).a ∧ (renewD B 16 o.s).a < 65536))) (rrenMeas br)
  case atStart => exact ⟨⟨true, rfl⟩, Or.inl ⟨_, _, H0.out⟩⟩
  case round =>
    obtain ⟨⟨bb, rfl⟩, hrel⟩ := hrel
    rcases hrel with ⟨s, f, hr⟩ | ⟨hbf, hco, hst, h1, h2⟩
    · obtain ⟨e0, e1, e2, e3, e4, e5, e6, e7, e8, ef⟩ := cell_of_nine hr.at_.blk
      have HR : Hid (RdRen w wr br gt ct gs gz n vb B o s f) := hr
      have hlt := hr.lt
      have hct := hr.dw.clt
      have htl := hr.dw.tlt
      have hbc : br < wr.heap.size := hr.at_.lt
      clear hr
      by_cases ht : s.t = 0
      · have ht0 : ((s.t : Int) == 0) = true := by rw [beq_iff_eq]; omega
        have HIn : Hid (Calls Tryd.prog 59 #[.pointer (some ⟨br, 0, none⟩)] wr fun e w' => e = .returned (.tuple #[]) ∧ RdAt w' br gt ct gs gz n vb B { o with s := inD B s } ∧ RdStep br gs gz wr w') := rin_any wr br gt ct gs gz n vb B { o with s := s } HR.out.at_ HB.out HR.out.dw
        obtain ⟨hiw, hia, hit⟩ := inD_dw HR.out.dw
        have HE : Hid (doubledD B s = { a := 2 * (inD B s).a, c := 2 * (inD B s).c % 4294967296, t := (inD B s).t - 1, p := (inD B s).p }) := by show _ = _; simp [doubledD, inZ, ht, twice]
        have hcl := hiw.clt
        have htl2 := hiw.tlt
        have ha1 : (inD B s).a < 32768 := by omega
        simp only [] at e4 e6
        obtain ⟨a0, Ha0⟩ : ∃ a0, Hid (a0 = s.a) := ⟨_, rfl⟩
        rw [← Ha0.out] at e4 hlt
        have hda : decide ((a0 : Int) < 32768) = true := decide_eq_true (by omega)
        clear hiw hia e0 e1 e2 e3 e5 e7 e8 ef
        cases bb
        all_goals
          go_wp2_with fail
          refine HIn.out.mono ?_
          rintro e w1 ⟨rfl, hc1, hs1⟩
          have HC1 : Hid (RdAt w1 br gt ct gs gz n vb B { o with s := inD B s }) := hc1
          have HS1 : Hid (RdStep br gs gz wr w1) := hs1
          obtain ⟨q0, q1, q2, q3, q4, q5, q6, q7, q8, qf⟩ := cell_of_nine hc1.blk
          clear hc1 hs1
          simp only [] at q0 q1 q2 q3 q4 q5 q6 q7 q8
          have hbl1 := HC1.out.lt
          generalize inD B s = s2 at *
          obtain ⟨a, c, t, p⟩ := s2
          simp only [] at *
          obtain ⟨d, HD⟩ : ∃ d, Hid (d = 2 * c % 4294967296) := ⟨_, rfl⟩
          have hd : bits BinOp.and IntKind.i64 (2 * (c : Int)) 4294967295 = (d : Int) := by
            have := HAnd.out (2 * c) (by omega)
            rw [HD.out]; exact this
          have HC : Hid (RdAt (((w1.setCell ⟨br, 4, none⟩ (.int .i64 (2 * (a : Int)))).setCell ⟨br, 5, none⟩ (.int .i64 (d : Int))).setCell ⟨br, 6, none⟩ (.int .i64 ((t : Int) - 1))) br gt ct gs gz n vb B { o with s := doubledD B s }) := by
            have := ((HC1.out.setA (2 * a)).setC d).setT (t - 1)
            rw [show ((2 * a : Nat) : Int) = 2 * (a : Int) by omega, show ((t - 1 : Nat) : Int) = (t : Int) - 1 by omega] at this
            rw [HE.out, ← HD.out]
            exact this
          have HFr : Hid (RdStep br gs gz wr (((w1.setCell ⟨br, 4, none⟩ (.int .i64 (2 * (a : Int)))).setCell ⟨br, 5, none⟩ (.int .i64 (d : Int))).setCell ⟨br, 6, none⟩ (.int .i64 ((t : Int) - 1)))) := HS1.out.trans (Fr.setCell (Fr.setCell (Fr.setCell (Fr.refl _ _) (fun _ => Or.inl rfl) _) (fun _ => Or.inl rfl) _) (fun _ => Or.inl rfl) _)
          go_wp2_with fail
          obtain ⟨r1, r2⟩ := RdRen.next (u := .bool false) (v := .bool true) HR.out HC.out HFr.out
          refine ⟨⟨⟨false, rfl⟩, ?_⟩, r2⟩
          rcases r1 with r | x3
          · exact Or.inl r
          · exact Or.inr ⟨rfl, x3⟩
      · have ht0 : ((s.t : Int) == 0) = false := by rw [beq_eq_false_iff_ne]; omega
        have HE : Hid (doubledD B s = { a := 2 * s.a, c := 2 * s.c % 4294967296, t := s.t - 1, p := s.p }) := by show _ = _; simp [doubledD, inZ, ht, twice]
        obtain ⟨a, c, t, p⟩ := s
        simp only [] at *
        have hda : decide ((a : Int) < 32768) = true := decide_eq_true (by omega)
        obtain ⟨d, HD⟩ : ∃ d, Hid (d = 2 * c % 4294967296) := ⟨_, rfl⟩
        have hd : bits BinOp.and IntKind.i64 (2 * (c : Int)) 4294967295 = (d : Int) := by
          have := HAnd.out (2 * c) (by omega)
          rw [HD.out]; exact this
        have HC : Hid (RdAt (((wr.setCell ⟨br, 4, none⟩ (.int .i64 (2 * (a : Int)))).setCell ⟨br, 5, none⟩ (.int .i64 (d : Int))).setCell ⟨br, 6, none⟩ (.int .i64 ((t : Int) - 1))) br gt ct gs gz n vb B { o with s := doubledD B { a := a, c := c, t := t, p := p } }) := by
          have := ((HR.out.at_.setA (2 * a)).setC d).setT (t - 1)
          rw [show ((2 * a : Nat) : Int) = 2 * (a : Int) by omega, show ((t - 1 : Nat) : Int) = (t : Int) - 1 by omega] at this
          rw [HE.out, ← HD.out]
          exact this
        have HFr : Hid (RdStep br gs gz wr (((wr.setCell ⟨br, 4, none⟩ (.int .i64 (2 * (a : Int)))).setCell ⟨br, 5, none⟩ (.int .i64 (d : Int))).setCell ⟨br, 6, none⟩ (.int .i64 ((t : Int) - 1)))) := Fr.setCell (Fr.setCell (Fr.setCell (Fr.refl _ _) (fun _ => Or.inl rfl) _) (fun _ => Or.inl rfl) _) (fun _ => Or.inl rfl) _
        cases bb
        all_goals
          go_wp2_with fail
          obtain ⟨r1, r2⟩ := RdRen.next (u := .bool false) (v := .bool true) HR.out HC.out HFr.out
          refine ⟨⟨⟨false, rfl⟩, ?_⟩, r2⟩
          rcases r1 with r | x3
          · exact Or.inl r
          · exact Or.inr ⟨rfl, x3⟩
    · simp only [Value.bool.injEq] at hbf
      subst hbf
      obtain ⟨e0, e1, e2, e3, e4, e5, e6, e7, e8, ef⟩ := cell_of_nine hco.blk
      have HF : Hid (RdAt wr br gt ct gs gz n vb B { o with s := renewD B 16 o.s } ∧ RdStep br gs gz w wr) := ⟨hco, hst⟩
      simp only [] at e4
      obtain ⟨a, Ha⟩ : ∃ a, Hid (a = (renewD B 16 o.s).a) := ⟨_, rfl⟩
      rw [← Ha.out] at e4 h1 h2
      have hda : decide ((a : Int) < 32768) = false := decide_eq_false (by omega)
      have HA1 : Hid (32768 ≤ a) := h1
      clear hco hst e0 e1 e2 e3 e5 e6 e7 e8 h1
      go_wp2_with fail
      go_end0
      exact ⟨rfl, HF.out⟩

end Go.Proofs.YtllhekkclhcdbaaDoor

/- The reference's decoder: a context learns. -/
namespace Go.Proofs.YtllhekkclhcdbaaDoor
open Go.RowKit

theorem RdAt.ctx {w : World} {br gt ct gs gz n : Nat} {vb : Value} {B : List Nat} {o : De} (h : RdAt w br gt ct gs gz n vb B o) {k : Nat} (hk : k < n) (hx : ∀ y ∈ o.x, y < 94) :
    RCtx w br gt ct gs gz n k (o.x.getD k 0 / 2) (o.x.getD k 0 % 2) (rQ (o.x.getD k 0 / 2)) := by
  obtain ⟨e0, e1, e2, e3, e4, e5, e6, e7, e8, ef⟩ := cell_of_nine h.blk
  have hlen := h.len
  have hy : o.x.getD k 0 < 94 := getD_lt hx k
  obtain ⟨t0, t1, t2, t3⟩ := tabCells_get 47 (o.x.getD k 0 / 2) (by omega)
  refine ⟨e0, e1, e2, ?_, ?_, ?_, ?_, ?_, ?_, h.st.frozenAt k, h.bt.frozenAt k⟩
  · rw [h.st.cellAt k (by omega), intCells_getD _ k (by rw [List.length_map, hlen]; exact hk)]
    congr 3
    rw [List.getD_eq_getElem?_getD, List.getD_eq_getElem?_getD, List.getElem?_map]
    cases o.x[k]? <;> rfl
  · rw [h.bt.cellAt k (by omega), intCells_getD _ k (by rw [List.length_map, hlen]; exact hk)]
    congr 3
    rw [List.getD_eq_getElem?_getD, List.getD_eq_getElem?_getD, List.getElem?_map]
    cases o.x[k]? <;> rfl
  · rw [h.tab.cellAt _ (by omega)]; exact t0
  · rw [h.tab.cellAt _ (by omega)]; exact t1
  · rw [h.tab.cellAt _ (by omega)]; exact t2
  · rw [h.tab.cellAt _ (by omega)]; exact t3
theorem RdAt.setX {w : World} {br gt ct gs gz n : Nat} {vb : Value} {B : List Nat} {o : De} (h : RdAt w br gt ct gs gz n vb B o) (k v : Nat) : RdAt ((w.setCell ⟨gz, k, none⟩ (.int .i64 ((v % 2 : Nat) : Int))).setCell ⟨gs, k, none⟩ (.int .i64 ((v / 2 : Nat) : Int))) br gt ct gs gz n vb B { o with x := o.x.set k v } := by
  obtain ⟨n1, n2, n3, n4, n5, n6⟩ := h.nes
  have f1 := Fr.set1 w gz k (.int .i64 ((v % 2 : Nat) : Int))
  have f2 := Fr.set1 (w.setCell ⟨gz, k, none⟩ (.int .i64 ((v % 2 : Nat) : Int))) gs k (.int .i64 ((v / 2 : Nat) : Int))
  have f : Fr (fun j => j = gz ∨ j = gs) w ((w.setCell ⟨gz, k, none⟩ (.int .i64 ((v % 2 : Nat) : Int))).setCell ⟨gs, k, none⟩ (.int .i64 ((v / 2 : Nat) : Int))) :=
    (f1.mono (fun _ _ e => Or.inl e)).trans f2 (fun _ _ e => Or.inr e)
  refine ⟨?_, row_kept1 h.tab f (by rintro (e | e); exact n6 e.symm; exact n5 e.symm), ?_, ?_, row_kept h.bs f (fun q hq => by rintro (e | e); exact (n4 q hq).2.2.2 e; exact (n4 q hq).2.2.1 e), h.lim, h.ne, by simp only [List.length_set]; exact h.len⟩
  · rw [f.block br h.lt (by rintro (e | e); exact n3 e.symm; exact n2 e.symm)]; exact h.blk
  · have := ((row_kept1 h.st f1 h.ne).stored k (.int .i64 ((v / 2 : Nat) : Int))).1
    rw [intCells_set] at this
    simp only [List.map_set]; exact this
  · have := (h.bt.stored k (.int .i64 ((v % 2 : Nat) : Int))).1
    rw [intCells_set] at this
    have k2 := row_kept1 this f2 (Ne.symm h.ne)
    simp only [List.map_set]; exact k2
theorem RdAt.setS {w : World} {br gt ct gs gz n : Nat} {vb : Value} {B : List Nat} {o : De} (h : RdAt w br gt ct gs gz n vb B o) (k v : Nat) (hv : (o.x.map (· % 2)).getD k 0 = v % 2) : RdAt (w.setCell ⟨gs, k, none⟩ (.int .i64 ((v / 2 : Nat) : Int))) br gt ct gs gz n vb B { o with x := o.x.set k v } := by
  obtain ⟨n1, n2, n3, n4, n5, n6⟩ := h.nes
  have f := Fr.set1 w gs k (.int .i64 ((v / 2 : Nat) : Int))
  refine ⟨?_, row_kept1 h.tab f (fun e => n5 e.symm), ?_, ?_, row_kept h.bs f (fun q hq e => (n4 q hq).2.2.1 e), h.lim, h.ne, by simp only [List.length_set]; exact h.len⟩
  · rw [f.block br h.lt (fun e => n2 e.symm)]; exact h.blk
  · have := (h.st.stored k (.int .i64 ((v / 2 : Nat) : Int))).1
    rw [intCells_set] at this
    simp only [List.map_set]; exact this
  · have := row_kept1 h.bt f (fun e => h.ne e.symm)
    simp only [List.map_set]
    rw [list_set_same _ k _ hv]
    exact this

theorem rlearn_likely (w : World) (br gt ct gs gz n : Nat) (vb : Value) (B : List Nat) (o : De) (h : RdAt w br gt ct gs gz n vb B o) (hx : ∀ y ∈ o.x, y < 94) (hlim : n ≤ 131072) (k y : Nat) (hk : k < n) (hy : o.x.getD k 0 = y) :
    Calls Tryd.prog 66 #[.pointer (some ⟨br, 0, none⟩), .int .i64 (k : Nat)] w fun e w' => e = .returned (.tuple #[]) ∧ RdAt w' br gt ct gs gz n vb B { o with x := o.x.set k (learnP true y) } ∧ RdStep br gs gz w w' := by
  have hc := h.ctx hk hx
  rw [hy] at hc
  have hy94 : y < 94 := by rw [← hy]; exact getD_lt hx k
  refine (rlikely_at w br gt ct gs n k (y / 2) (rM (y / 2)) hk hlim (by omega) hc.e0 hc.e1 hc.cs hc.cm hc.fs).mono ?_
  rintro e w5 ⟨rfl, hw5⟩
  have hv2 : (2 * rM (y / 2) + y % 2) / 2 = rM (y / 2) := by omega
  have hv1 : (2 * rM (y / 2) + y % 2) % 2 = y % 2 := by omega
  have hsS := h.setS k (2 * rM (y / 2) + y % 2) (by
    rw [hv1, ← hy, List.getD_eq_getElem?_getD, List.getD_eq_getElem?_getD, List.getElem?_map]
    cases o.x[k]? <;> rfl)
  rw [hv2] at hsS
  have hlp : learnP true y = 2 * rM (y / 2) + y % 2 := by unfold learnP; rw [if_pos rfl]
  refine ⟨rfl, ?_, ?_⟩
  · rw [hlp, hw5]
    exact hsS.keptAll (Fr.drew (Fr.refl (fun _ => False) _))
  · rw [hw5]
    exact ((Fr.set1 w gs k _).mono (fun _ _ e => Or.inr (Or.inl e))).drew

theorem rlearn_other (w : World) (br gt ct gs gz n : Nat) (vb : Value) (B : List Nat) (o : De) (h : RdAt w br gt ct gs gz n vb B o) (hx : ∀ y ∈ o.x, y < 94) (hlim : n ≤ 131072) (k y : Nat) (hk : k < n) (hy : o.x.getD k 0 = y) :
    Calls Tryd.prog 67 #[.pointer (some ⟨br, 0, none⟩), .int .i64 (k : Nat)] w fun e w' => e = .returned (.tuple #[]) ∧ RdAt w' br gt ct gs gz n vb B { o with x := o.x.set k (learnP false y) } ∧ RdStep br gs gz w w' := by
  have hc := h.ctx hk hx
  rw [hy] at hc
  have hy94 : y < 94 := by rw [← hy]; exact getD_lt hx k
  obtain ⟨n1, n2, n3, n4, n5, n6⟩ := h.nes
  cases hrs : rS (y / 2)
  · refine (rother_keep w br gt ct gs gz n k (y / 2) (rQ (y / 2)) (rM (y / 2)) (rL (y / 2)) (y % 2) hk hlim ⟨by omega, rfl, rfl, rfl, hrs.symm⟩ (by omega) h.ne hc.e0 hc.e1 hc.e2 hc.cs hc.cz hc.cq hc.cm hc.cl (by rw [hc.cb, hrs]) hc.fs hc.fz n2 n3 n6).mono ?_
    rintro e w5 ⟨rfl, f5⟩
    have hv2 : (2 * rL (y / 2) + y % 2) / 2 = rL (y / 2) := by omega
    have hv1 : (2 * rL (y / 2) + y % 2) % 2 = y % 2 := by omega
    have hsS := h.setS k (2 * rL (y / 2) + y % 2) (by
      rw [hv1, ← hy, List.getD_eq_getElem?_getD, List.getD_eq_getElem?_getD, List.getElem?_map]
      cases o.x[k]? <;> rfl)
    rw [hv2] at hsS
    have hlp : learnP false y = 2 * rL (y / 2) + y % 2 := by unfold learnP; rw [if_neg (by decide), hrs]; rfl
    refine ⟨rfl, ?_, ?_⟩
    · rw [hlp]; exact hsS.keptAll f5
    · exact ((Fr.set1 w gs k _).mono (fun _ _ e => Or.inr (Or.inl e))).trans f5 (fun _ _ h => h.elim)
  · refine (rother_turn w br gt ct gs gz n k (y / 2) (rQ (y / 2)) (rM (y / 2)) (rL (y / 2)) (y % 2) hk hlim ⟨by omega, rfl, rfl, rfl, hrs.symm⟩ (by omega) h.ne hc.e0 hc.e1 hc.e2 hc.cs hc.cz hc.cq hc.cm hc.cl (by rw [hc.cb, hrs]) hc.fs hc.fz n2 n3 n6).mono ?_
    rintro e w5 ⟨rfl, f5⟩
    have hv2 : (2 * rL (y / 2) + (1 - y % 2)) / 2 = rL (y / 2) := by omega
    have hv1 : (2 * rL (y / 2) + (1 - y % 2)) % 2 = 1 - y % 2 := by omega
    have hsS := h.setX k (2 * rL (y / 2) + (1 - y % 2))
    rw [hv2, hv1] at hsS
    have hlp : learnP false y = 2 * rL (y / 2) + (1 - y % 2) := by unfold learnP; rw [if_neg (by decide), hrs]; rfl
    refine ⟨rfl, ?_, ?_⟩
    · rw [hlp]; exact hsS.keptAll f5
    · exact (((Fr.set1 w gz k _).mono (fun _ _ e => Or.inr (Or.inr e))).trans (Fr.set1 _ gs k _) (fun _ _ e => Or.inr (Or.inl e))).trans f5 (fun _ _ h => h.elim)

end Go.Proofs.YtllhekkclhcdbaaDoor

/- The reference's decoder: 'Get'. -/
namespace Go.Proofs.YtllhekkclhcdbaaDoor
open Go.RowKit

set_option maxRecDepth 100000 in
set_option maxHeartbeats 8000000 in
theorem rget_any (w : World) (br gt ct gs gz n : Nat) (vb : Value) (B : List Nat) (o : De) (h : RdAt w br gt ct gs gz n vb B o) (hok : Eok B o) (hm : o.made < 16777216) (i : Int) (hi : -9223372036854775808 ≤ i ∧ i ≤ 9223372036854775807) :
    Calls Tryd.prog 74 #[.pointer (some ⟨br, 0, none⟩), .int .i64 i] w fun e w' => e = .returned (.tuple #[.int .i64 (getBit o i : Nat), .int .i64 0]) ∧ RdAt w' br gt ct gs gz n vb B (getP B o i) ∧ RdStep br gs gz w w' := by
  obtain ⟨e0, e1, e2, e3, e4, e5, e6, e7, e8, ef⟩ := cell_of_nine h.blk
  have hlen := h.len
  have hpos := hok.pos
  have hlim := hok.lim
  rw [hlen] at hpos hlim
  obtain ⟨k, hK⟩ : ∃ k, placeOf i n = k := ⟨_, rfl⟩
  have hk : k < n := by rw [← hK]; exact placeOf_lt i hpos
  have h1 := h.setMade (o.made + 1)
  rw [show ((o.made + 1 : Nat) : Int) = (o.made : Int) + 1 by push_cast; rfl] at h1
  obtain ⟨y, hy⟩ : ∃ y, o.x.getD k 0 = y := ⟨_, rfl⟩
  have HG : Hid (getBit o i = decBit o.s y ∧ getP B o i = { s := decP B o.s y, x := o.x.set k (decX o.s y), made := o.made + 1 }) := by
    unfold getBit getP
    rw [hlen, hK, hy]
    exact ⟨rfl, rfl⟩
  have hc1 := h1.ctx hk hok.cells
  dsimp only at hc1
  rw [hy] at hc1
  have hy94 : y < 94 := by rw [← hy]; exact getD_lt hok.cells k
  have hq0 := rQ_bd (y / 2) (by omega)
  have hhalf := hok.ok.half
  have halt := hok.ok.dw.alt
  have hclt := hok.ok.dw.clt
  obtain ⟨q, Hq⟩ : ∃ q, Hid (q = rQ (y / 2)) := ⟨_, rfl⟩
  rw [← Hq.out] at hc1 hq0
  obtain ⟨z, Hz⟩ : ∃ z, Hid (z = y % 2) := ⟨_, rfl⟩
  have hz2 : z < 2 := by rw [Hz.out]; omega
  rw [← Hz.out] at hc1
  obtain ⟨s, Hs⟩ : ∃ s, Hid (s = y / 2) := ⟨_, rfl⟩
  have hs47 : s < 47 := by rw [Hs.out]; omega
  rw [← Hs.out] at hc1
  have HI : Hid (Calls Tryd.prog 65 #[.pointer (some ⟨br, 0, none⟩), .int .i64 i] (w.setCell ⟨br, 3, none⟩ (.int .i64 ((o.made : Int) + 1))) fun e w' => e = .returned (.int .i64 (k : Nat)) ∧ w' = w.setCell ⟨br, 3, none⟩ (.int .i64 ((o.made : Int) + 1))) := by
    rw [← hK]
    exact rindex_at _ br gs n i hi hpos hlim hc1.e1
  have HOk : Hid (Eok B o) := hok
  have HY : Hid (o.x.getD k 0 = y) := hy
  have HLm : Hid (n ≤ 131072) := hlim
  have ef3 := ef 3
  have c0 := hc1.cs
  have c1 := hc1.cz
  have c2 := hc1.cq
  have c3 := hc1.e0
  have c4 := hc1.e1
  have c5 := hc1.e2
  obtain ⟨w1, hw1⟩ : ∃ w1, w.setCell ⟨br, 3, none⟩ (.int .i64 ((o.made : Int) + 1)) = w1 := ⟨_, rfl⟩
  have F1 : Hid (Fr (fun j => j = br) w w1) := by rw [← hw1]; exact Fr.set1 w br 3 _
  rw [hw1] at h1 c0 c1 c2 c3 c4 c5 HI
  have H1 : Hid (RdAt w1 br gt ct gs gz n vb B { o with made := o.made + 1 }) := h1
  obtain ⟨f0, f1, f2, f3, f4, f5, f6, f7, f8, ff⟩ := cell_of_nine h1.blk
  have k1 : IntKind.i64.wrap ((o.made : Int) + 1) = (o.made : Int) + 1 := by rw [IntKind.wrap_i64]; omega
  have km : ((o.made : Int) == 16777216) = false := by simp; omega
  have km2 : decide (o.made = 16777216) = false := decide_eq_false (by omega)
  clear ef e0 e1 e2 e4 e5 e6 e7 e8 h1 hc1 hy hok hK h hlen hpos hlim hi
  go_enter Tryd.func74, Tryd.ntmps74
  go_wp2_with fail
  refine HI.out.mono ?_
  rintro e w2 ⟨rfl, hw2⟩
  obtain rfl := hw2.symm
  go_wp2_with fail
  go_quiet (fail)
  have hnx := H1.out.keptAll ((Fr.refl (fun _ => False) w1).drewN nq)
  have Fn : Fr (fun j => j = br) w (w1.drewN nq) := F1.out.drewN nq
  generalize w1.drewN nq = wn at *
  obtain ⟨d, hd⟩ : ∃ d, o.s.a - q = d := ⟨_, rfl⟩
  have k2 : IntKind.i64.wrap ((o.s.a : Int) - (q : Int)) = (d : Int) := by rw [IntKind.wrap_i64]; omega
  clear f0 f1 f2 f3 f4 f5 f6 f7 f8 ff c0 c1 c2 c3 c4 c5
  obtain ⟨g0, g1, g2, g3, g4, g5, g6, g7, g8, gf⟩ := cell_of_nine hnx.blk
  have hcn := hnx.ctx hk HOk.out.cells
  dsimp only at hcn g4 g5
  rw [HY.out, ← Hz.out] at hcn
  have pz := hcn.cz
  have gf4 := gf 4
  have h3 := hnx.setA d
  have HR3 : Hid (RdAt (wn.setCell ⟨br, 4, none⟩ (.int .i64 (d : Int))) br gt ct gs gz n vb B { o with made := o.made + 1, s := { o.s with a := d } }) := h3
  have HF3 : Hid (Fr (fun j => j = br) w (wn.setCell ⟨br, 4, none⟩ (.int .i64 (d : Int)))) := Fr.trans Fn (Fr.set1 wn br 4 _) (fun _ _ h => h)
  have hd65 : d < 65536 := by omega
  have HDd : Hid (o.s.a - q = d ∧ 1 ≤ d) := ⟨hd, by omega⟩
  obtain ⟨w3, hw3⟩ : ∃ w3, wn.setCell ⟨br, 4, none⟩ (.int .i64 (d : Int)) = w3 := ⟨_, rfl⟩
  rw [hw3] at HR3 HF3
  obtain ⟨p0, p1, p2, p3, p4, p5, p6, p7, p8, pf⟩ := cell_of_nine HR3.out.blk
  dsimp only at p4 p5
  clear hnx Fn gf hcn h3 hd
  obtain ⟨C, HCc⟩ : ∃ C, Hid (C = o.s.c) := ⟨_, rfl⟩
  rw [← HCc.out] at p5 g5 hclt
  have HEq : Hid (decBit o.s y = (if decStay o.s q then z else if decLikely o.s q then z else 1 - z) ∧ decP B o.s y = (if decStay o.s q then decS o.s q else renewD B 16 (decS o.s q)) ∧ decX o.s y = (if decStay o.s q then y else learnP (decLikely o.s q) y)) := by
    unfold decBit decP decX
    rw [← Hq.out, ← Hz.out]
    exact ⟨rfl, rfl, rfl⟩
  have HDw : Hid (Dw B o.s) := HOk.out.ok.dw
  have HB : Hid (∀ y ∈ B, y < 256) := HOk.out.bytes
  have hdz : (1 : Int) - (z : Int) = ((1 - z : Nat) : Int) := by omega
  by_cases hl : C / 65536 < q
  · have hlow : decide ((C : Int) / 65536 < (q : Int)) = true := decide_eq_true (by omega)
    have hnst : ¬ decStay o.s q := fun h => h.1 (by rw [← HCc.out]; exact hl)
    have hS : decS o.s q = { o.s with a := q } := by unfold decS; rw [if_pos (by rw [← HCc.out]; exact hl)]
    by_cases hdq : d < q
    · have hd2 : decide ((d : Int) < (q : Int)) = true := decide_eq_true (by omega)
      have hLk : decLikely o.s q = true := by unfold decLikely; rw [HDd.out.1, ← HCc.out, decide_eq_true hl, decide_eq_true hdq]; rfl
      have HFin : Hid (getBit o i = z ∧ getP B o i = { s := renewD B 16 { o.s with a := q }, x := o.x.set k (learnP true y), made := o.made + 1 }) := by
        rw [HG.out.1, HG.out.2, HEq.out.1, HEq.out.2.1, HEq.out.2.2, if_neg hnst, if_neg hnst, if_neg hnst, hLk, hS]
        exact ⟨rfl, rfl⟩
      have HLn : Hid (Calls Tryd.prog 66 #[.pointer (some ⟨br, 0, none⟩), .int .i64 (k : Nat)] w3 fun e w' => e = .returned (.tuple #[]) ∧ RdAt w' br gt ct gs gz n vb B { s := { o.s with a := d }, x := o.x.set k (learnP true y), made := o.made + 1 } ∧ RdStep br gs gz w3 w') := rlearn_likely w3 br gt ct gs gz n vb B _ HR3.out HOk.out.cells HLm.out k y hk HY.out
      clear hl hnst hS hLk HG HEq
      go_wp2_with fail
      refine HLn.out.mono ?_
      rintro e w5 ⟨rfl, hr5, hs5⟩
      have HR5 : Hid (RdAt (w5.setCell ⟨br, 4, none⟩ (.int .i64 (q : Int))) br gt ct gs gz n vb B { s := { o.s with a := q }, x := o.x.set k (learnP true y), made := o.made + 1 } ∧ RdStep br gs gz w (w5.setCell ⟨br, 4, none⟩ (.int .i64 (q : Int)))) := ⟨hr5.setA q, ((HF3.out.mono (fun _ _ e => Or.inl e)).trans hs5 (fun _ _ e => e)).trans (Fr.set1 w5 br 4 _) (fun _ _ e => Or.inl e)⟩
      obtain ⟨r0, r1, r2, r3, r4, r5, r6, r7, r8, rf⟩ := cell_of_nine hr5.blk
      clear hr5 hs5
      go_wp2_with fail
      generalize w5.setCell ⟨br, 4, none⟩ (.int .i64 (q : Int)) = w6 at *
      refine (rrenewD_any _ br gt ct gs gz n vb B _ HR5.out.1 HB.out ⟨hq0.1, by have := hq0.2; show q < 65536; omega, HDw.out.clt, HDw.out.tlt, HDw.out.plt⟩ (by have := hq0.2; show q < 32768; omega)).mono ?_
      rintro e w7 ⟨rfl, hr7, hs7⟩
      have HR7 : Hid (RdAt w7 br gt ct gs gz n vb B (getP B o i) ∧ RdStep br gs gz w w7) := by
        rw [HFin.out.2]
        exact ⟨hr7, HR5.out.2.trans hs7⟩
      clear hr7 hs7
      go_wp2_with fail
      go_ret2
      exact ⟨by rw [HFin.out.1]; rfl, HR7.out.1, HR7.out.2⟩
    · have hd2 : decide (d < q) = false := decide_eq_false hdq
      have hd3 : decide ((d : Int) < (q : Int)) = false := decide_eq_false (by omega)
      have hLk : decLikely o.s q = false := by unfold decLikely; rw [HDd.out.1, ← HCc.out, decide_eq_true hl, decide_eq_false hdq]; rfl
      have HFin : Hid (getBit o i = 1 - z ∧ getP B o i = { s := renewD B 16 { o.s with a := q }, x := o.x.set k (learnP false y), made := o.made + 1 }) := by
        rw [HG.out.1, HG.out.2, HEq.out.1, HEq.out.2.1, HEq.out.2.2, if_neg hnst, if_neg hnst, if_neg hnst, hLk, hS]
        exact ⟨rfl, rfl⟩
      have HLn : Hid (Calls Tryd.prog 67 #[.pointer (some ⟨br, 0, none⟩), .int .i64 (k : Nat)] w3 fun e w' => e = .returned (.tuple #[]) ∧ RdAt w' br gt ct gs gz n vb B { s := { o.s with a := d }, x := o.x.set k (learnP false y), made := o.made + 1 } ∧ RdStep br gs gz w3 w') := rlearn_other w3 br gt ct gs gz n vb B _ HR3.out HOk.out.cells HLm.out k y hk HY.out
      clear hl hnst hS hLk HG HEq
      go_wp2_with fail
      refine HLn.out.mono ?_
      rintro e w5 ⟨rfl, hr5, hs5⟩
      have HR5 : Hid (RdAt (w5.setCell ⟨br, 4, none⟩ (.int .i64 (q : Int))) br gt ct gs gz n vb B { s := { o.s with a := q }, x := o.x.set k (learnP false y), made := o.made + 1 } ∧ RdStep br gs gz w (w5.setCell ⟨br, 4, none⟩ (.int .i64 (q : Int)))) := ⟨hr5.setA q, ((HF3.out.mono (fun _ _ e => Or.inl e)).trans hs5 (fun _ _ e => e)).trans (Fr.set1 w5 br 4 _) (fun _ _ e => Or.inl e)⟩
      obtain ⟨r0, r1, r2, r3, r4, r5, r6, r7, r8, rf⟩ := cell_of_nine hr5.blk
      clear hr5 hs5
      go_wp2_with fail
      generalize w5.setCell ⟨br, 4, none⟩ (.int .i64 (q : Int)) = w6 at *
      refine (rrenewD_any _ br gt ct gs gz n vb B _ HR5.out.1 HB.out ⟨hq0.1, by have := hq0.2; show q < 65536; omega, HDw.out.clt, HDw.out.tlt, HDw.out.plt⟩ (by have := hq0.2; show q < 32768; omega)).mono ?_
      rintro e w7 ⟨rfl, hr7, hs7⟩
      have HR7 : Hid (RdAt w7 br gt ct gs gz n vb B (getP B o i) ∧ RdStep br gs gz w w7) := by
        rw [HFin.out.2]
        exact ⟨hr7, HR5.out.2.trans hs7⟩
      clear hr7 hs7
      go_wp2_with fail
      go_ret2
      exact ⟨by rw [HFin.out.1]; rfl, HR7.out.1, HR7.out.2⟩
  · have hlow : decide ((C : Int) / 65536 < (q : Int)) = false := decide_eq_false (by omega)
    obtain ⟨cq, HCQ⟩ : ∃ cq, Hid (cq = C - q * 65536) := ⟨_, rfl⟩
    have hcq : (C : Int) - (q : Int) * 65536 = (cq : Int) := by rw [HCQ.out]; omega
    have hcq2 : cq < 4294967296 := by rw [HCQ.out]; omega
    have hS : decS o.s q = { o.s with a := d, c := cq } := by unfold decS; rw [if_neg (by rw [← HCc.out]; exact hl), HDd.out.1, HCQ.out, HCc.out]
    have HR4 : Hid (RdAt (w3.setCell ⟨br, 5, none⟩ (.int .i64 (cq : Int))) br gt ct gs gz n vb B { s := { o.s with a := d, c := cq }, x := o.x, made := o.made + 1 } ∧ RdStep br gs gz w (w3.setCell ⟨br, 5, none⟩ (.int .i64 (cq : Int)))) := ⟨HR3.out.setC cq, (HF3.out.mono (fun _ _ e => Or.inl e)).trans (Fr.set1 w3 br 5 _) (fun _ _ e => Or.inl e)⟩
    by_cases hbig : 32768 ≤ d
    · have hd1 : decide ((32768 : Int) ≤ (d : Int)) = true := decide_eq_true (by omega)
      have hst : decStay o.s q := ⟨by rw [← HCc.out]; exact hl, by rw [HDd.out.1]; exact hbig⟩
      have HFin : Hid (getBit o i = z ∧ getP B o i = { s := { o.s with a := d, c := cq }, x := o.x, made := o.made + 1 }) := by
        rw [HG.out.1, HG.out.2, HEq.out.1, HEq.out.2.1, HEq.out.2.2, if_pos hst, if_pos hst, if_pos hst, hS, list_set_same _ k _ HY.out]
        exact ⟨rfl, rfl⟩
      clear hl hst hS HG HEq
      go_wp2_with fail
      go_ret2
      refine ⟨by rw [HFin.out.1]; rfl, ?_, HR4.out.2⟩
      rw [HFin.out.2]; exact HR4.out.1
    · have hd1 : decide ((32768 : Int) ≤ (d : Int)) = false := decide_eq_false (by omega)
      have hd1' : decide (32768 ≤ d) = false := decide_eq_false hbig
      have hnst : ¬ decStay o.s q := fun h => hbig (by have := h.2; rw [HDd.out.1] at this; exact this)
      by_cases hdq : d < q
      · have hd2 : decide ((d : Int) < (q : Int)) = true := decide_eq_true (by omega)
        have hLk : decLikely o.s q = false := by unfold decLikely; rw [HDd.out.1, ← HCc.out, decide_eq_false hl, decide_eq_true hdq]; rfl
        have HFin : Hid (getBit o i = 1 - z ∧ getP B o i = { s := renewD B 16 { o.s with a := d, c := cq }, x := o.x.set k (learnP false y), made := o.made + 1 }) := by
          rw [HG.out.1, HG.out.2, HEq.out.1, HEq.out.2.1, HEq.out.2.2, if_neg hnst, if_neg hnst, if_neg hnst, hLk, hS]
          exact ⟨rfl, rfl⟩
        have HLn : Hid (Calls Tryd.prog 67 #[.pointer (some ⟨br, 0, none⟩), .int .i64 (k : Nat)] (w3.setCell ⟨br, 5, none⟩ (.int .i64 (cq : Int))) fun e w' => e = .returned (.tuple #[]) ∧ RdAt w' br gt ct gs gz n vb B { s := { o.s with a := d, c := cq }, x := o.x.set k (learnP false y), made := o.made + 1 } ∧ RdStep br gs gz (w3.setCell ⟨br, 5, none⟩ (.int .i64 (cq : Int))) w') := rlearn_other _ br gt ct gs gz n vb B _ HR4.out.1 HOk.out.cells HLm.out k y hk HY.out
        clear hl hnst hS hLk HG HEq
        go_wp2_with fail
        generalize w3.setCell ⟨br, 5, none⟩ (.int .i64 (cq : Int)) = w4 at *
        refine HLn.out.mono ?_
        rintro e w5 ⟨rfl, hr5, hs5⟩
        have HR5 : Hid (RdAt w5 br gt ct gs gz n vb B { s := { o.s with a := d, c := cq }, x := o.x.set k (learnP false y), made := o.made + 1 } ∧ RdStep br gs gz w w5) := ⟨hr5, HR4.out.2.trans hs5⟩
        clear hr5 hs5
        go_wp2_with fail
        refine (rrenewD_any _ br gt ct gs gz n vb B _ HR5.out.1 HB.out ⟨HDd.out.2, hd65, hcq2, HDw.out.tlt, HDw.out.plt⟩ (by show d < 32768; omega)).mono ?_
        rintro e w7 ⟨rfl, hr7, hs7⟩
        have HR7 : Hid (RdAt w7 br gt ct gs gz n vb B (getP B o i) ∧ RdStep br gs gz w w7) := by
          rw [HFin.out.2]
          exact ⟨hr7, HR5.out.2.trans hs7⟩
        clear hr7 hs7
        go_wp2_with fail
        go_ret2
        exact ⟨by rw [HFin.out.1]; rfl, HR7.out.1, HR7.out.2⟩
      · have hd2 : decide (d < q) = false := decide_eq_false hdq
        have hd3 : decide ((d : Int) < (q : Int)) = false := decide_eq_false (by omega)
        have hLk : decLikely o.s q = true := by unfold decLikely; rw [HDd.out.1, ← HCc.out, decide_eq_false hl, decide_eq_false hdq]; rfl
        have HFin : Hid (getBit o i = z ∧ getP B o i = { s := renewD B 16 { o.s with a := d, c := cq }, x := o.x.set k (learnP true y), made := o.made + 1 }) := by
          rw [HG.out.1, HG.out.2, HEq.out.1, HEq.out.2.1, HEq.out.2.2, if_neg hnst, if_neg hnst, if_neg hnst, hLk, hS]
          exact ⟨rfl, rfl⟩
        have HLn : Hid (Calls Tryd.prog 66 #[.pointer (some ⟨br, 0, none⟩), .int .i64 (k : Nat)] (w3.setCell ⟨br, 5, none⟩ (.int .i64 (cq : Int))) fun e w' => e = .returned (.tuple #[]) ∧ RdAt w' br gt ct gs gz n vb B { s := { o.s with a := d, c := cq }, x := o.x.set k (learnP true y), made := o.made + 1 } ∧ RdStep br gs gz (w3.setCell ⟨br, 5, none⟩ (.int .i64 (cq : Int))) w') := rlearn_likely _ br gt ct gs gz n vb B _ HR4.out.1 HOk.out.cells HLm.out k y hk HY.out
        clear hl hnst hS hLk HG HEq
        go_wp2_with fail
        generalize w3.setCell ⟨br, 5, none⟩ (.int .i64 (cq : Int)) = w4 at *
        refine HLn.out.mono ?_
        rintro e w5 ⟨rfl, hr5, hs5⟩
        have HR5 : Hid (RdAt w5 br gt ct gs gz n vb B { s := { o.s with a := d, c := cq }, x := o.x.set k (learnP true y), made := o.made + 1 } ∧ RdStep br gs gz w w5) := ⟨hr5, HR4.out.2.trans hs5⟩
        clear hr5 hs5
        go_wp2_with fail
        refine (rrenewD_any _ br gt ct gs gz n vb B _ HR5.out.1 HB.out ⟨HDd.out.2, hd65, hcq2, HDw.out.tlt, HDw.out.plt⟩ (by show d < 32768; omega)).mono ?_
        rintro e w7 ⟨rfl, hr7, hs7⟩
        have HR7 : Hid (RdAt w7 br gt ct gs gz n vb B (getP B o i) ∧ RdStep br gs gz w w7) := by
          rw [HFin.out.2]
          exact ⟨hr7, HR5.out.2.trans hs7⟩
        clear hr7 hs7
        go_wp2_with fail
        go_ret2
        exact ⟨by rw [HFin.out.1]; rfl, HR7.out.1, HR7.out.2⟩

end Go.Proofs.YtllhekkclhcdbaaDoor
