/- A decoder in memory; a byte comes in. -/
import Derived.Test.YtkggdnkmaldmlabKCode
import Derived.Test.YtkggdnkmaldmlabK4
namespace Go.Proofs.Ytkggdnkmaldmlab
open Go.RowKit

/-- A decoder: its block bd, its contexts' block gc, its bytes. -/
structure DeAt (w : World) (bd gc cc : Nat) (vb : Value) (B : List Nat) (o : De) : Prop where
  blk : w.heap[bd]? = some (.cells #[.slice (some ⟨gc, 0, none⟩) o.x.length cc, .int .i64 (o.made : Nat), .int .u32 (o.s.a : Nat), .int .u32 (o.s.c : Nat), .int .i64 (o.s.t : Nat), vb, .int .i64 (o.s.p : Nat)] 58 (0, 0))
  xs : w.ownsRow 0 121 1 (.slice (some ⟨gc, 0, none⟩) o.x.length cc) o.x.length (byteCells o.x)
  bs : w.ownsRow 0 5 1 vb B.length (byteCells B)
  lim : B.length ≤ 140737488355328

theorem row_type2 {w : World} {base e size n g : Nat} {v : Value} {xs : List Value} (h : w.ownsRow base e size v n xs) (hv : v.ownBlock = some g) : ∃ cur, w.heap[g]? = some (.cells cur e (0, 0)) := by
  rcases h.2 with ⟨rfl, _⟩ | ⟨g', cap', cur, rfl, _, hg, _⟩
  · simp [Value.ownBlock] at hv
  · simp [Value.ownBlock] at hv; subst hv; exact ⟨cur, hg⟩

theorem DeAt.lt {w : World} {bd gc cc : Nat} {vb : Value} {B : List Nat} {o : De} (h : DeAt w bd gc cc vb B o) : bd < w.heap.size := lt_of_block h.blk
theorem DeAt.xlt {w : World} {bd gc cc : Nat} {vb : Value} {B : List Nat} {o : De} (h : DeAt w bd gc cc vb B o) : gc < w.heap.size := (h.xs.lt gc rfl).2
theorem DeAt.nex {w : World} {bd gc cc : Nat} {vb : Value} {B : List Nat} {o : De} (h : DeAt w bd gc cc vb B o) : gc ≠ bd := by
  intro e; subst e
  obtain ⟨cur, hg⟩ := row_type h.xs
  rw [h.blk] at hg; simp at hg
theorem DeAt.neb {w : World} {bd gc cc : Nat} {vb : Value} {B : List Nat} {o : De} (h : DeAt w bd gc cc vb B o) : vb.ownBlock ≠ some bd := by
  intro e
  obtain ⟨cur, hg⟩ := row_type2 h.bs e
  rw [h.blk] at hg; simp at hg
theorem DeAt.nexb {w : World} {bd gc cc : Nat} {vb : Value} {B : List Nat} {o : De} (h : DeAt w bd gc cc vb B o) : vb.ownBlock ≠ some gc := by
  intro e
  obtain ⟨cur, hg⟩ := row_type2 h.bs e
  obtain ⟨cur', hg'⟩ := row_type h.xs
  rw [hg'] at hg; simp at hg
theorem DeAt.kept {w w' : World} {bd gc cc : Nat} {vb : Value} {B : List Nat} {o : De} {S : Nat → Prop} (h : DeAt w bd gc cc vb B o) (f : Fr S w w') (h1 : ¬ S bd) (h2 : ¬ S gc) (h3 : ∀ k, vb.ownBlock = some k → ¬ S k) : DeAt w' bd gc cc vb B o :=
  ⟨by rw [f.block bd h.lt h1]; exact h.blk, row_kept1 h.xs f h2, row_kept h.bs f h3, h.lim⟩
theorem DeAt.keptAll {w w' : World} {bd gc cc : Nat} {vb : Value} {B : List Nat} {o : De} (h : DeAt w bd gc cc vb B o) (f : Fr (fun _ => False) w w') : DeAt w' bd gc cc vb B o := h.kept f (fun hh => hh) (fun hh => hh) (fun _ _ hh => hh)

theorem DeAt.reg {w : World} {bd gc cc : Nat} {vb : Value} {B : List Nat} {o o' : De} (h : DeAt w bd gc cc vb B o) (j : Nat) (u : Value) (hx : o'.x = o.x)
    (hb : (#[.slice (some ⟨gc, 0, none⟩) o.x.length cc, .int .i64 (o.made : Nat), .int .u32 (o.s.a : Nat), .int .u32 (o.s.c : Nat), .int .i64 (o.s.t : Nat), vb, .int .i64 (o.s.p : Nat)] : Array Value).setIfInBounds j u = #[.slice (some ⟨gc, 0, none⟩) o.x.length cc, .int .i64 (o'.made : Nat), .int .u32 (o'.s.a : Nat), .int .u32 (o'.s.c : Nat), .int .i64 (o'.s.t : Nat), vb, .int .i64 (o'.s.p : Nat)]) :
    DeAt (w.setCell ⟨bd, j, none⟩ u) bd gc cc vb B o' := by
  have f := Fr.set1 w bd j u
  refine ⟨?_, ?_, row_kept h.bs f (fun k hk e => h.neb (e ▸ hk)), h.lim⟩
  · rw [seven_set h.blk, hb, hx]
  · rw [hx]; exact row_kept1 h.xs f h.nex
theorem DeAt.setA {w : World} {bd gc cc : Nat} {vb : Value} {B : List Nat} {o : De} (h : DeAt w bd gc cc vb B o) (v : Nat) : DeAt (w.setCell ⟨bd, 2, none⟩ (.int .u32 (v : Int))) bd gc cc vb B { o with s := { o.s with a := v } } := h.reg 2 _ rfl rfl
theorem DeAt.setC {w : World} {bd gc cc : Nat} {vb : Value} {B : List Nat} {o : De} (h : DeAt w bd gc cc vb B o) (v : Nat) : DeAt (w.setCell ⟨bd, 3, none⟩ (.int .u32 (v : Int))) bd gc cc vb B { o with s := { o.s with c := v } } := h.reg 3 _ rfl rfl
theorem DeAt.setT {w : World} {bd gc cc : Nat} {vb : Value} {B : List Nat} {o : De} (h : DeAt w bd gc cc vb B o) (v : Nat) : DeAt (w.setCell ⟨bd, 4, none⟩ (.int .i64 (v : Int))) bd gc cc vb B { o with s := { o.s with t := v } } := h.reg 4 _ rfl rfl
theorem DeAt.setP {w : World} {bd gc cc : Nat} {vb : Value} {B : List Nat} {o : De} (h : DeAt w bd gc cc vb B o) (v : Nat) : DeAt (w.setCell ⟨bd, 6, none⟩ (.int .i64 (v : Int))) bd gc cc vb B { o with s := { o.s with p := v } } := h.reg 6 _ rfl rfl
theorem DeAt.setMade {w : World} {bd gc cc : Nat} {vb : Value} {B : List Nat} {o : De} (h : DeAt w bd gc cc vb B o) (v : Nat) : DeAt (w.setCell ⟨bd, 1, none⟩ (.int .i64 (v : Int))) bd gc cc vb B { o with made := v } := h.reg 1 _ rfl rfl
theorem DeAt.setX {w : World} {bd gc cc : Nat} {vb : Value} {B : List Nat} {o : De} (h : DeAt w bd gc cc vb B o) (k v : Nat) : DeAt (w.setCell ⟨gc, k, none⟩ (.int .u8 (v : Int))) bd gc cc vb B { o with x := o.x.set k v } := by
  have f := Fr.set1 w gc k (.int .u8 (v : Int))
  refine ⟨?_, ?_, row_kept h.bs f (fun j hj e => h.nexb (e ▸ hj)), h.lim⟩
  · rw [f.block bd h.lt (fun e => h.nex e.symm), List.length_set]; exact h.blk
  · have := (h.xs.stored k (.int .u8 (v : Int))).1
    rw [byteCells_set] at this
    rw [List.length_set]; exact this
theorem DeAt.ctx {w : World} {bd gc cc : Nat} {vb : Value} {B : List Nat} {o : De} (h : DeAt w bd gc cc vb B o) {k : Nat} (hk : k < o.x.length) : w.cell? ⟨gc, k, none⟩ = some (.int .u8 (o.x.getD k 0 : Nat)) := by
  rw [h.xs.cellAt _ (by omega), byteCells_get, List.getD_eq_getElem?_getD, List.getElem?_eq_getElem hk]; rfl

/-- What a step of the decoder may touch. -/
abbrev DStep (bd gc : Nat) (w w' : World) : Prop := Fr (fun k => k = bd ∨ k = gc) w w'
theorem DStep.trans {bd gc : Nat} {w w1 w2 : World} (h : DStep bd gc w w1) (k : DStep bd gc w1 w2) : DStep bd gc w w2 := Fr.trans h k (fun _ _ e => e)
theorem DStep.lift {bd gc : Nat} {w w1 w2 : World} (f : Fr (fun _ => False) w w1) (h : DStep bd gc w1 w2) : DStep bd gc w w2 := DStep.trans (f.mono (fun _ _ hh => hh.elim)) h

set_option maxRecDepth 100000 in
set_option maxHeartbeats 1000000 in
theorem byteAt_any (w : World) (bd gc cc : Nat) (vb : Value) (B : List Nat) (o : De) (h : DeAt w bd gc cc vb B o) (hB : ∀ y ∈ B, y < 256) (i : Nat) (hi : i ≤ 140737488355329) :
    Calls Try.prog 20 #[.pointer (some ⟨bd, 0, none⟩), .int .i64 i] w fun e w' => e = .returned (.int .u32 (byteD B i : Nat)) ∧ w' = w := by
  obtain ⟨e0, e1, e2, e3, e4, e5, e6, ef⟩ := cell_of_seven h.blk
  have hlim := h.lim
  have HO : Hid (DeAt w bd gc cc vb B o) := h
  obtain ⟨n, Hn⟩ : ∃ n, Hid (n = B.length) := ⟨_, rfl⟩
  have hb := h.bs
  rw [← Hn.out] at hb hlim
  clear h
  by_cases hin : i < n
  · obtain ⟨g, cap, rfl, _, hc, hm⟩ := row_form hb (by omega)
    have c := hb.cellAt i (by omega)
    have hv : (byteCells B)[i]? = some (.int .u8 (byteD B i : Nat)) := by
      rw [byteCells_get, byteD, List.getD_eq_getElem?_getD, List.getElem?_eq_getElem (by have := Hn.out; omega)]; rfl
    rw [hv] at c
    obtain ⟨v, HV⟩ : ∃ v, Hid (v = byteD B i) := ⟨_, rfl⟩
    have hv2 : v < 256 := by rw [HV.out]; exact byteD_lt hB i
    rw [← HV.out] at c ⊢
    have hv3 : (v : Int) % 4294967296 = (v : Int) := by omega
    clear hb hv
    go_enter Try.func20, Try.ntmps20
    go_wp2_with fail
    go_ret
    exact ⟨rfl, rfl⟩
  · have hv : byteD B i = 255 := byteD_past (by have := Hn.out; omega)
    rw [hv]
    rcases hb.2 with ⟨rfl, e⟩ | ⟨g, cap, cur, rfl, _, _, hc, hm, _⟩
    · clear hb
      go_enter Try.func20, Try.ntmps20
      go_wp2_with fail
      go_ret
      exact ⟨rfl, rfl⟩
    · clear hb
      go_enter Try.func20, Try.ntmps20
      go_wp2_with fail
      go_ret
      exact ⟨rfl, rfl⟩

set_option maxRecDepth 100000 in
set_option maxHeartbeats 1000000 in
/-- A byte comes in. -/
theorem in_any (w : World) (bd gc cc : Nat) (vb : Value) (B : List Nat) (o : De) (h : DeAt w bd gc cc vb B o) (hB : ∀ y ∈ B, y < 256) (hw : Dw B o.s) :
    Calls Try.prog 21 #[.pointer (some ⟨bd, 0, none⟩)] w fun e w' => e = .returned (.tuple #[]) ∧ DeAt w' bd gc cc vb B { o with s := inD B o.s } ∧ DStep bd gc w w' := by
  obtain ⟨e0, e1, e2, e3, e4, e5, e6, ef⟩ := cell_of_seven h.blk
  have HO : Hid (DeAt w bd gc cc vb B o) := h
  have hp := hw.plt
  have hlim := h.lim
  have hc := hw.clt
  have HN : Hid (∀ i : Nat, i ≤ 140737488355329 → Calls Try.prog 20 #[.pointer (some ⟨bd, 0, none⟩), .int .i64 i] w fun e w' => e = .returned (.int .u32 (byteD B i : Nat)) ∧ w' = w) := fun i hi => byteAt_any w bd gc cc vb B o h hB i hi
  have HI : Hid (inD B o.s = inD B o.s) := rfl
  obtain ⟨⟨a, c, t, p⟩, x, made⟩ := o
  simp only [] at *
  have hlt1 := byteD_lt hB p
  have hlt2 := byteD_lt hB (p + 1)
  have HU : Hid (inD B { a := a, c := c, t := t, p := p } = if byteD B p ≠ 255 then { a := a, c := (c + byteD B (p + 1) * 256) % 4294967296, t := 8, p := p + 1 } else if 143 < byteD B (p + 1) then { a := a, c := (c + 65280) % 4294967296, t := 8, p := p } else { a := a, c := (c + byteD B (p + 1) * 512) % 4294967296, t := 7, p := p + 1 }) := rfl
  have HN1 : Hid (Calls Try.prog 20 #[.pointer (some ⟨bd, 0, none⟩), .int .i64 (p : Int)] w fun e w' => e = .returned (.int .u32 (byteD B p : Nat)) ∧ w' = w) := HN.out p (by omega)
  have HN2 : Hid (Calls Try.prog 20 #[.pointer (some ⟨bd, 0, none⟩), .int .i64 ((p : Int) + 1)] w fun e w' => e = .returned (.int .u32 (byteD B (p + 1) : Nat)) ∧ w' = w) := HN.out (p + 1) (by omega)
  clear HN h hw
  obtain ⟨u, hu⟩ : ∃ u, u = byteD B p := ⟨_, rfl⟩
  obtain ⟨v, hv⟩ : ∃ v, v = byteD B (p + 1) := ⟨_, rfl⟩
  rw [← hu] at hlt1 HU HN1
  rw [← hv] at hlt2 HU HN2
  clear hu hv HI
  by_cases h1 : u = 255
  · subst h1
    by_cases h2 : 143 < v
    · obtain ⟨d, HD⟩ : ∃ d, Hid (d = (c + 65280) % 4294967296) := ⟨_, rfl⟩
      have hd : ((c : Int) + 65280) % 4294967296 = (d : Int) := by rw [HD.out]; omega
      have hd2 : d < 4294967296 := by rw [HD.out]; omega
      rw [if_neg (by simp), if_pos h2, ← HD.out] at HU
      go_enter Try.func21, Try.ntmps21
      go_wp2_with fail
      refine HN2.out.mono ?_
      rintro e w1 ⟨rfl, hw1⟩
      subst hw1
      go_wp2_with fail
      refine HN1.out.mono ?_
      rintro e w2 ⟨rfl, hw2⟩
      subst hw2
      go_wp2_with fail
      (try simp only [Exit.inBlock, Exit.then]); refine bodyPost_ret (results_none rfl _ _ _) rfl ?_
      refine ⟨rfl, ?_, Fr.setCell (Fr.setCell (Fr.refl _ _) (fun _ => Or.inl rfl) _) (fun _ => Or.inl rfl) _⟩
      rw [HU.out]
      exact (HO.out.setC d).setT 8
    · obtain ⟨d, HD⟩ : ∃ d, Hid (d = (c + v * 512) % 4294967296) := ⟨_, rfl⟩
      have hd : ((c : Int) + (v : Int) * 512) % 4294967296 = (d : Int) := by rw [HD.out]; omega
      have hd2 : d < 4294967296 := by rw [HD.out]; omega
      rw [if_neg (by simp), if_neg h2, ← HD.out] at HU
      go_enter Try.func21, Try.ntmps21
      go_wp2_with fail
      refine HN2.out.mono ?_
      rintro e w1 ⟨rfl, hw1⟩
      subst hw1
      go_wp2_with fail
      refine HN1.out.mono ?_
      rintro e w2 ⟨rfl, hw2⟩
      subst hw2
      go_wp2_with fail
      go_end0
      refine ⟨rfl, ?_, Fr.setCell (Fr.setCell (Fr.setCell (Fr.refl _ _) (fun _ => Or.inl rfl) _) (fun _ => Or.inl rfl) _) (fun _ => Or.inl rfl) _⟩
      rw [HU.out]
      exact ((HO.out.setP (p + 1)).setC d).setT 7
  · obtain ⟨d, HD⟩ : ∃ d, Hid (d = (c + v * 256) % 4294967296) := ⟨_, rfl⟩
    have hd : ((c : Int) + (v : Int) * 256) % 4294967296 = (d : Int) := by rw [HD.out]; omega
    have hd2 : d < 4294967296 := by rw [HD.out]; omega
    have hu5 : ((u : Int) != 255) = true := by rw [bne_iff_ne]; omega
    rw [if_pos h1, ← HD.out] at HU
    go_enter Try.func21, Try.ntmps21
    go_wp2_with fail
    refine HN2.out.mono ?_
    rintro e w1 ⟨rfl, hw1⟩
    subst hw1
    go_wp2_with fail
    refine HN1.out.mono ?_
    rintro e w2 ⟨rfl, hw2⟩
    subst hw2
    go_wp2_with fail
    (try simp only [Exit.inBlock, Exit.then]); refine bodyPost_ret (results_none rfl _ _ _) rfl ?_
    refine ⟨rfl, ?_, Fr.setCell (Fr.setCell (Fr.setCell (Fr.refl _ _) (fun _ => Or.inl rfl) _) (fun _ => Or.inl rfl) _) (fun _ => Or.inl rfl) _⟩
    rw [HU.out]
    exact ((HO.out.setP (p + 1)).setC d).setT 8

end Go.Proofs.Ytkggdnkmaldmlab
