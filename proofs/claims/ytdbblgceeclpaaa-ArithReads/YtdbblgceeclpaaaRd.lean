/- The reference's decoder in memory: over the same plain decoder. -/
import Derived.Test.YtdbblgceeclpaaaReP
import Derived.Test.YtdbblgceeclpaaaDren
namespace Go.Proofs.Ytdbblgceeclpaaa
open Go.RowKit

/-- A decoder of the reference: its block br, its table gt, its states gs, its likelier bits gz, its bytes vb. -/
structure RdAt (w : World) (br gt ct gs gz n : Nat) (vb : Value) (B : List Nat) (o : De) : Prop where
  blk : w.heap[br]? = some (.cells #[.slice (some ⟨gt, 0, none⟩) 47 ct, .slice (some ⟨gs, 0, none⟩) n n, .slice (some ⟨gz, 0, none⟩) n n, .int .i64 (o.made : Nat), .int .i64 (o.s.a : Nat), .int .i64 (o.s.c : Nat), .int .i64 (o.s.t : Nat), vb, .int .i64 (o.s.p : Nat)] 71 (0, 0))
  tab : w.ownsRow 0 87 4 (.slice (some ⟨gt, 0, none⟩) 47 ct) 47 (tabCells 47)
  st : w.ownsRow 0 3 1 (.slice (some ⟨gs, 0, none⟩) n n) n (intCells (o.x.map (· / 2)))
  bt : w.ownsRow 0 3 1 (.slice (some ⟨gz, 0, none⟩) n n) n (intCells (o.x.map (· % 2)))
  bs : w.ownsRow 0 5 1 vb B.length (byteCells B)
  lim : B.length ≤ 140737488355328
  ne : gs ≠ gz
  len : o.x.length = n

theorem RdAt.lt {w : World} {br gt ct gs gz n : Nat} {vb : Value} {B : List Nat} {o : De} (h : RdAt w br gt ct gs gz n vb B o) : br < w.heap.size := lt_of_block h.blk
theorem RdAt.kept {w w' : World} {br gt ct gs gz n : Nat} {vb : Value} {B : List Nat} {o : De} {S : Nat → Prop} (h : RdAt w br gt ct gs gz n vb B o) (f : Fr S w w') (h1 : ¬ S br) (h2 : ¬ S gt) (h3 : ¬ S gs) (h4 : ¬ S gz) (h5 : ∀ k, vb.ownBlock = some k → ¬ S k) : RdAt w' br gt ct gs gz n vb B o :=
  ⟨by rw [f.block br h.lt h1]; exact h.blk, row_kept1 h.tab f h2, row_kept1 h.st f h3, row_kept1 h.bt f h4, row_kept h.bs f h5, h.lim, h.ne, h.len⟩
theorem RdAt.keptAll {w w' : World} {br gt ct gs gz n : Nat} {vb : Value} {B : List Nat} {o : De} (h : RdAt w br gt ct gs gz n vb B o) (f : Fr (fun _ => False) w w') : RdAt w' br gt ct gs gz n vb B o := h.kept f (fun h => h) (fun h => h) (fun h => h) (fun h => h) (fun _ _ h => h)
theorem RdAt.nes {w : World} {br gt ct gs gz n : Nat} {vb : Value} {B : List Nat} {o : De} (h : RdAt w br gt ct gs gz n vb B o) : gt ≠ br ∧ gs ≠ br ∧ gz ≠ br ∧ (∀ k, vb.ownBlock = some k → k ≠ br ∧ k ≠ gt ∧ k ≠ gs ∧ k ≠ gz) ∧ gs ≠ gt ∧ gz ≠ gt :=
  ⟨row_nb h.tab rfl h.blk (by decide), row_nb h.st rfl h.blk (by decide), row_nb h.bt rfl h.blk (by decide), fun k hk => ⟨row_nb h.bs hk h.blk (by decide), row_ne h.bs h.tab hk rfl (by decide), row_ne h.bs h.st hk rfl (by decide), row_ne h.bs h.bt hk rfl (by decide)⟩, row_ne h.st h.tab rfl rfl (by decide), row_ne h.bt h.tab rfl rfl (by decide)⟩

theorem RdAt.reg {w : World} {br gt ct gs gz n : Nat} {vb : Value} {B : List Nat} {o o' : De} (h : RdAt w br gt ct gs gz n vb B o) (j : Nat) (u : Value) (hx : o'.x = o.x)
    (hb : (#[.slice (some ⟨gt, 0, none⟩) 47 ct, .slice (some ⟨gs, 0, none⟩) n n, .slice (some ⟨gz, 0, none⟩) n n, .int .i64 (o.made : Nat), .int .i64 (o.s.a : Nat), .int .i64 (o.s.c : Nat), .int .i64 (o.s.t : Nat), vb, .int .i64 (o.s.p : Nat)] : Array Value).setIfInBounds j u = #[.slice (some ⟨gt, 0, none⟩) 47 ct, .slice (some ⟨gs, 0, none⟩) n n, .slice (some ⟨gz, 0, none⟩) n n, .int .i64 (o'.made : Nat), .int .i64 (o'.s.a : Nat), .int .i64 (o'.s.c : Nat), .int .i64 (o'.s.t : Nat), vb, .int .i64 (o'.s.p : Nat)]) :
    RdAt (w.setCell ⟨br, j, none⟩ u) br gt ct gs gz n vb B o' := by
  have f := Fr.set1 w br j u
  obtain ⟨n1, n2, n3, n4, _⟩ := h.nes
  refine ⟨?_, row_kept1 h.tab f n1, ?_, ?_, row_kept h.bs f (fun k hk => (n4 k hk).1), h.lim, h.ne, by rw [hx]; exact h.len⟩
  · rw [seven_set h.blk, hb]
  · rw [hx]; exact row_kept1 h.st f n2
  · rw [hx]; exact row_kept1 h.bt f n3
theorem RdAt.setMade {w : World} {br gt ct gs gz n : Nat} {vb : Value} {B : List Nat} {o : De} (h : RdAt w br gt ct gs gz n vb B o) (v : Nat) : RdAt (w.setCell ⟨br, 3, none⟩ (.int .i64 (v : Int))) br gt ct gs gz n vb B { o with made := v } := h.reg 3 _ rfl rfl
theorem RdAt.setA {w : World} {br gt ct gs gz n : Nat} {vb : Value} {B : List Nat} {o : De} (h : RdAt w br gt ct gs gz n vb B o) (v : Nat) : RdAt (w.setCell ⟨br, 4, none⟩ (.int .i64 (v : Int))) br gt ct gs gz n vb B { o with s := { o.s with a := v } } := h.reg 4 _ rfl rfl
theorem RdAt.setC {w : World} {br gt ct gs gz n : Nat} {vb : Value} {B : List Nat} {o : De} (h : RdAt w br gt ct gs gz n vb B o) (v : Nat) : RdAt (w.setCell ⟨br, 5, none⟩ (.int .i64 (v : Int))) br gt ct gs gz n vb B { o with s := { o.s with c := v } } := h.reg 5 _ rfl rfl
theorem RdAt.setT {w : World} {br gt ct gs gz n : Nat} {vb : Value} {B : List Nat} {o : De} (h : RdAt w br gt ct gs gz n vb B o) (v : Nat) : RdAt (w.setCell ⟨br, 6, none⟩ (.int .i64 (v : Int))) br gt ct gs gz n vb B { o with s := { o.s with t := v } } := h.reg 6 _ rfl rfl
theorem RdAt.setP {w : World} {br gt ct gs gz n : Nat} {vb : Value} {B : List Nat} {o : De} (h : RdAt w br gt ct gs gz n vb B o) (v : Nat) : RdAt (w.setCell ⟨br, 8, none⟩ (.int .i64 (v : Int))) br gt ct gs gz n vb B { o with s := { o.s with p := v } } := h.reg 8 _ rfl rfl

set_option maxRecDepth 100000 in
set_option maxHeartbeats 1000000 in
theorem rbyte_any (w : World) (br gt ct gs gz n : Nat) (vb : Value) (B : List Nat) (o : De) (h : RdAt w br gt ct gs gz n vb B o) (hB : ∀ y ∈ B, y < 256) (i : Nat) (hi : i ≤ 140737488355329) :
    Calls Try.prog 46 #[.pointer (some ⟨br, 0, none⟩), .int .i64 i] w fun e w' => e = .returned (.int .i64 (byteD B i : Nat)) ∧ w' = w := by
  obtain ⟨e0, e1, e2, e3, e4, e5, e6, e7, e8, ef⟩ := cell_of_nine h.blk
  have hlim := h.lim
  obtain ⟨n2, Hn⟩ : ∃ n2, Hid (n2 = B.length) := ⟨_, rfl⟩
  have hb := h.bs
  rw [← Hn.out] at hb hlim
  clear h e0 e1 e2 e3 e4 e5 e6 e8 ef
  by_cases hin : i < n2
  · obtain ⟨g, cap, rfl, _, hc, hm⟩ := row_form hb (by omega)
    have c := hb.cellAt i (by omega)
    have hv : (byteCells B)[i]? = some (.int .u8 (byteD B i : Nat)) := by
      rw [byteCells_get, byteD, List.getD_eq_getElem?_getD, List.getElem?_eq_getElem (by have := Hn.out; omega)]; rfl
    rw [hv] at c
    obtain ⟨v, HV⟩ : ∃ v, Hid (v = byteD B i) := ⟨_, rfl⟩
    have hv2 : v < 256 := by rw [HV.out]; exact byteD_lt hB i
    rw [← HV.out] at c ⊢
    clear hb hv
    go_enter Try.func46, Try.ntmps46
    go_wp2_with fail
    go_ret
    exact ⟨rfl, rfl⟩
  · have hv : byteD B i = 255 := byteD_past (by have := Hn.out; omega)
    rw [hv]
    rcases hb.2 with ⟨rfl, e⟩ | ⟨g, cap, cur, rfl, _, _, hc, hm, _⟩
    · clear hb
      go_enter Try.func46, Try.ntmps46
      go_wp2_with fail
      go_ret
      exact ⟨rfl, rfl⟩
    · clear hb
      go_enter Try.func46, Try.ntmps46
      go_wp2_with fail
      go_ret
      exact ⟨rfl, rfl⟩

end Go.Proofs.Ytdbblgceeclpaaa
