/- The rows of the table. -/
import Derived.Great.BuildSlice
import Derived.Handy
import Derived.Test.YtkggdnkmaldmlabProg
import Derived.Test.YtkggdnkmaldmlabK4
import Derived.WalkKit
import Derived.WalkSpells
import Derived.WalkLawsBesides
import Derived.Test.YtkggdnkmaldmlabK2
namespace Go.Proofs.Ytkggdnkmaldmlab
open Go.RowKit

def rowsA : Array Value := #[.int .u32 22017, .int .u8 1, .int .u8 1, .bool true,
  .int .u32 13313, .int .u8 2, .int .u8 6, .bool false,
  .int .u32 6145, .int .u8 3, .int .u8 9, .bool false,
  .int .u32 2753, .int .u8 4, .int .u8 12, .bool false,
  .int .u32 1313, .int .u8 5, .int .u8 29, .bool false,
  .int .u32 545, .int .u8 38, .int .u8 33, .bool false,
  .int .u32 22017, .int .u8 7, .int .u8 6, .bool true,
  .int .u32 21505, .int .u8 8, .int .u8 14, .bool false,
  .int .u32 18433, .int .u8 9, .int .u8 14, .bool false,
  .int .u32 14337, .int .u8 10, .int .u8 14, .bool false,
  .int .u32 12289, .int .u8 11, .int .u8 17, .bool false,
  .int .u32 9217, .int .u8 12, .int .u8 18, .bool false,
  .int .u32 7169, .int .u8 13, .int .u8 20, .bool false,
  .int .u32 5633, .int .u8 29, .int .u8 21, .bool false,
  .int .u32 22017, .int .u8 15, .int .u8 14, .bool true,
  .int .u32 21505, .int .u8 16, .int .u8 14, .bool false,
  .int .u32 20737, .int .u8 17, .int .u8 15, .bool false,
  .int .u32 18433, .int .u8 18, .int .u8 16, .bool false,
  .int .u32 14337, .int .u8 19, .int .u8 17, .bool false,
  .int .u32 13313, .int .u8 20, .int .u8 18, .bool false,
  .int .u32 12289, .int .u8 21, .int .u8 19, .bool false,
  .int .u32 10241, .int .u8 22, .int .u8 19, .bool false,
  .int .u32 9217, .int .u8 23, .int .u8 20, .bool false,
  .int .u32 8705, .int .u8 24, .int .u8 21, .bool false,
  .int .u32 7169, .int .u8 25, .int .u8 22, .bool false,
  .int .u32 6145, .int .u8 26, .int .u8 23, .bool false,
  .int .u32 5633, .int .u8 27, .int .u8 24, .bool false,
  .int .u32 5121, .int .u8 28, .int .u8 25, .bool false,
  .int .u32 4609, .int .u8 29, .int .u8 26, .bool false,
  .int .u32 4353, .int .u8 30, .int .u8 27, .bool false,
  .int .u32 2753, .int .u8 31, .int .u8 28, .bool false,
  .int .u32 2497, .int .u8 32, .int .u8 29, .bool false,
  .int .u32 2209, .int .u8 33, .int .u8 30, .bool false,
  .int .u32 1313, .int .u8 34, .int .u8 31, .bool false,
  .int .u32 1089, .int .u8 35, .int .u8 32, .bool false,
  .int .u32 673, .int .u8 36, .int .u8 33, .bool false,
  .int .u32 545, .int .u8 37, .int .u8 34, .bool false,
  .int .u32 321, .int .u8 38, .int .u8 35, .bool false,
  .int .u32 273, .int .u8 39, .int .u8 36, .bool false,
  .int .u32 133, .int .u8 40, .int .u8 37, .bool false,
  .int .u32 73, .int .u8 41, .int .u8 38, .bool false,
  .int .u32 37, .int .u8 42, .int .u8 39, .bool false,
  .int .u32 21, .int .u8 43, .int .u8 40, .bool false,
  .int .u32 9, .int .u8 44, .int .u8 41, .bool false,
  .int .u32 5, .int .u8 45, .int .u8 42, .bool false,
  .int .u32 1, .int .u8 45, .int .u8 43, .bool false,
  .int .u32 22017, .int .u8 46, .int .u8 46, .bool false]
def rowV (s : Nat) : Value := .agg #[.int .u32 (rQ s : Nat), .int .u8 (rM s : Nat), .int .u8 (rL s : Nat), .bool (rS s)]

theorem idx_row (w : World) : ∀ s : Nat, s < 47 → (Instr.index 133 (.agg rowsA) (.int .i64 (s : Nat))).run Try.prog w = .ok (rowV s) w
  | 0, _ => by kernel_rfl
  | 1, _ => by kernel_rfl
  | 2, _ => by kernel_rfl
  | 3, _ => by kernel_rfl
  | 4, _ => by kernel_rfl
  | 5, _ => by kernel_rfl
  | 6, _ => by kernel_rfl
  | 7, _ => by kernel_rfl
  | 8, _ => by kernel_rfl
  | 9, _ => by kernel_rfl
  | 10, _ => by kernel_rfl
  | 11, _ => by kernel_rfl
  | 12, _ => by kernel_rfl
  | 13, _ => by kernel_rfl
  | 14, _ => by kernel_rfl
  | 15, _ => by kernel_rfl
  | 16, _ => by kernel_rfl
  | 17, _ => by kernel_rfl
  | 18, _ => by kernel_rfl
  | 19, _ => by kernel_rfl
  | 20, _ => by kernel_rfl
  | 21, _ => by kernel_rfl
  | 22, _ => by kernel_rfl
  | 23, _ => by kernel_rfl
  | 24, _ => by kernel_rfl
  | 25, _ => by kernel_rfl
  | 26, _ => by kernel_rfl
  | 27, _ => by kernel_rfl
  | 28, _ => by kernel_rfl
  | 29, _ => by kernel_rfl
  | 30, _ => by kernel_rfl
  | 31, _ => by kernel_rfl
  | 32, _ => by kernel_rfl
  | 33, _ => by kernel_rfl
  | 34, _ => by kernel_rfl
  | 35, _ => by kernel_rfl
  | 36, _ => by kernel_rfl
  | 37, _ => by kernel_rfl
  | 38, _ => by kernel_rfl
  | 39, _ => by kernel_rfl
  | 40, _ => by kernel_rfl
  | 41, _ => by kernel_rfl
  | 42, _ => by kernel_rfl
  | 43, _ => by kernel_rfl
  | 44, _ => by kernel_rfl
  | 45, _ => by kernel_rfl
  | 46, _ => by kernel_rfl
  | n + 47, h => by omega

set_option maxRecDepth 100000 in
set_option maxHeartbeats 4000000 in
theorem row_of (w : World) (s : Nat) (hs : s < 47) : Calls Try.prog 83 #[.int .i64 (s : Nat)] w fun e w' => e = .returned (rowV s) ∧ ∃ o, w' = w.alloc o := by
  have hidx : ∀ w, (Instr.index 133 (.agg rowsA) (.int .i64 (s : Nat))).run Try.prog w = .ok (rowV s) w := fun w => idx_row w s hs
  unfold rowV at hidx ⊢
  go_enter Try.func83, Try.ntmps83
  go_wp2_with (
    refine wpList_buildTo rfl 127 _ rfl _ rfl #[.int .u32 22017, .int .u8 1, .int .u8 1, .bool true] (by kernel_rfl) ?_
    refine wpList_buildTo rfl 127 _ rfl _ rfl #[.int .u32 13313, .int .u8 2, .int .u8 6, .bool false] (by kernel_rfl) ?_
    refine wpList_buildTo rfl 127 _ rfl _ rfl #[.int .u32 6145, .int .u8 3, .int .u8 9, .bool false] (by kernel_rfl) ?_
    refine wpList_buildTo rfl 127 _ rfl _ rfl #[.int .u32 2753, .int .u8 4, .int .u8 12, .bool false] (by kernel_rfl) ?_
    refine wpList_buildTo rfl 127 _ rfl _ rfl #[.int .u32 1313, .int .u8 5, .int .u8 29, .bool false] (by kernel_rfl) ?_
    refine wpList_buildTo rfl 127 _ rfl _ rfl #[.int .u32 545, .int .u8 38, .int .u8 33, .bool false] (by kernel_rfl) ?_
    refine wpList_buildTo rfl 127 _ rfl _ rfl #[.int .u32 22017, .int .u8 7, .int .u8 6, .bool true] (by kernel_rfl) ?_
    refine wpList_buildTo rfl 127 _ rfl _ rfl #[.int .u32 21505, .int .u8 8, .int .u8 14, .bool false] (by kernel_rfl) ?_
    refine wpList_buildTo rfl 127 _ rfl _ rfl #[.int .u32 18433, .int .u8 9, .int .u8 14, .bool false] (by kernel_rfl) ?_
    refine wpList_buildTo rfl 127 _ rfl _ rfl #[.int .u32 14337, .int .u8 10, .int .u8 14, .bool false] (by kernel_rfl) ?_
    refine wpList_buildTo rfl 127 _ rfl _ rfl #[.int .u32 12289, .int .u8 11, .int .u8 17, .bool false] (by kernel_rfl) ?_
    refine wpList_buildTo rfl 127 _ rfl _ rfl #[.int .u32 9217, .int .u8 12, .int .u8 18, .bool false] (by kernel_rfl) ?_
    refine wpList_buildTo rfl 127 _ rfl _ rfl #[.int .u32 7169, .int .u8 13, .int .u8 20, .bool false] (by kernel_rfl) ?_
    refine wpList_buildTo rfl 127 _ rfl _ rfl #[.int .u32 5633, .int .u8 29, .int .u8 21, .bool false] (by kernel_rfl) ?_
    refine wpList_buildTo rfl 127 _ rfl _ rfl #[.int .u32 22017, .int .u8 15, .int .u8 14, .bool true] (by kernel_rfl) ?_
    refine wpList_buildTo rfl 127 _ rfl _ rfl #[.int .u32 21505, .int .u8 16, .int .u8 14, .bool false] (by kernel_rfl) ?_
    refine wpList_buildTo rfl 127 _ rfl _ rfl #[.int .u32 20737, .int .u8 17, .int .u8 15, .bool false] (by kernel_rfl) ?_
    refine wpList_buildTo rfl 127 _ rfl _ rfl #[.int .u32 18433, .int .u8 18, .int .u8 16, .bool false] (by kernel_rfl) ?_
    refine wpList_buildTo rfl 127 _ rfl _ rfl #[.int .u32 14337, .int .u8 19, .int .u8 17, .bool false] (by kernel_rfl) ?_
    refine wpList_buildTo rfl 127 _ rfl _ rfl #[.int .u32 13313, .int .u8 20, .int .u8 18, .bool false] (by kernel_rfl) ?_
    refine wpList_buildTo rfl 127 _ rfl _ rfl #[.int .u32 12289, .int .u8 21, .int .u8 19, .bool false] (by kernel_rfl) ?_
    refine wpList_buildTo rfl 127 _ rfl _ rfl #[.int .u32 10241, .int .u8 22, .int .u8 19, .bool false] (by kernel_rfl) ?_
    refine wpList_buildTo rfl 127 _ rfl _ rfl #[.int .u32 9217, .int .u8 23, .int .u8 20, .bool false] (by kernel_rfl) ?_
    refine wpList_buildTo rfl 127 _ rfl _ rfl #[.int .u32 8705, .int .u8 24, .int .u8 21, .bool false] (by kernel_rfl) ?_
    refine wpList_buildTo rfl 127 _ rfl _ rfl #[.int .u32 7169, .int .u8 25, .int .u8 22, .bool false] (by kernel_rfl) ?_
    refine wpList_buildTo rfl 127 _ rfl _ rfl #[.int .u32 6145, .int .u8 26, .int .u8 23, .bool false] (by kernel_rfl) ?_
    refine wpList_buildTo rfl 127 _ rfl _ rfl #[.int .u32 5633, .int .u8 27, .int .u8 24, .bool false] (by kernel_rfl) ?_
    refine wpList_buildTo rfl 127 _ rfl _ rfl #[.int .u32 5121, .int .u8 28, .int .u8 25, .bool false] (by kernel_rfl) ?_
    refine wpList_buildTo rfl 127 _ rfl _ rfl #[.int .u32 4609, .int .u8 29, .int .u8 26, .bool false] (by kernel_rfl) ?_
    refine wpList_buildTo rfl 127 _ rfl _ rfl #[.int .u32 4353, .int .u8 30, .int .u8 27, .bool false] (by kernel_rfl) ?_
    refine wpList_buildTo rfl 127 _ rfl _ rfl #[.int .u32 2753, .int .u8 31, .int .u8 28, .bool false] (by kernel_rfl) ?_
    refine wpList_buildTo rfl 127 _ rfl _ rfl #[.int .u32 2497, .int .u8 32, .int .u8 29, .bool false] (by kernel_rfl) ?_
    refine wpList_buildTo rfl 127 _ rfl _ rfl #[.int .u32 2209, .int .u8 33, .int .u8 30, .bool false] (by kernel_rfl) ?_
    refine wpList_buildTo rfl 127 _ rfl _ rfl #[.int .u32 1313, .int .u8 34, .int .u8 31, .bool false] (by kernel_rfl) ?_
    refine wpList_buildTo rfl 127 _ rfl _ rfl #[.int .u32 1089, .int .u8 35, .int .u8 32, .bool false] (by kernel_rfl) ?_
    refine wpList_buildTo rfl 127 _ rfl _ rfl #[.int .u32 673, .int .u8 36, .int .u8 33, .bool false] (by kernel_rfl) ?_
    refine wpList_buildTo rfl 127 _ rfl _ rfl #[.int .u32 545, .int .u8 37, .int .u8 34, .bool false] (by kernel_rfl) ?_
    refine wpList_buildTo rfl 127 _ rfl _ rfl #[.int .u32 321, .int .u8 38, .int .u8 35, .bool false] (by kernel_rfl) ?_
    refine wpList_buildTo rfl 127 _ rfl _ rfl #[.int .u32 273, .int .u8 39, .int .u8 36, .bool false] (by kernel_rfl) ?_
    refine wpList_buildTo rfl 127 _ rfl _ rfl #[.int .u32 133, .int .u8 40, .int .u8 37, .bool false] (by kernel_rfl) ?_
    refine wpList_buildTo rfl 127 _ rfl _ rfl #[.int .u32 73, .int .u8 41, .int .u8 38, .bool false] (by kernel_rfl) ?_
    refine wpList_buildTo rfl 127 _ rfl _ rfl #[.int .u32 37, .int .u8 42, .int .u8 39, .bool false] (by kernel_rfl) ?_
    refine wpList_buildTo rfl 127 _ rfl _ rfl #[.int .u32 21, .int .u8 43, .int .u8 40, .bool false] (by kernel_rfl) ?_
    refine wpList_buildTo rfl 127 _ rfl _ rfl #[.int .u32 9, .int .u8 44, .int .u8 41, .bool false] (by kernel_rfl) ?_
    refine wpList_buildTo rfl 127 _ rfl _ rfl #[.int .u32 5, .int .u8 45, .int .u8 42, .bool false] (by kernel_rfl) ?_
    refine wpList_buildTo rfl 127 _ rfl _ rfl #[.int .u32 1, .int .u8 45, .int .u8 43, .bool false] (by kernel_rfl) ?_
    refine wpList_buildTo rfl 127 _ rfl _ rfl #[.int .u32 22017, .int .u8 46, .int .u8 46, .bool false] (by kernel_rfl) ?_
    refine wpList_buildTo rfl 133 _ rfl _ rfl rowsA (by kernel_rfl) ?_)
  go_returns
  exact ⟨rfl, _, rfl⟩

end Go.Proofs.Ytkggdnkmaldmlab

/- What stays of memory where some blocks are written; bytes as cells; rows that are owned. -/
namespace Go.Proofs.Ytkggdnkmaldmlab
open Go.RowKit

theorem Fr.cell {S : Nat → Prop} {a b : World} (h : Fr S a b) {g j : Nat} {p : Option _} {v : Value} (hc : a.cell? ⟨g, j, p⟩ = some v) (hs : ¬ S g) : b.cell? ⟨g, j, p⟩ = some v := by
  have hlt : g < a.heap.size := by
    by_cases hg : g < a.heap.size
    · exact hg
    · rw [World.cell?, Array.getElem?_eq_none (by show a.heap.size ≤ g; omega)] at hc; cases hc
  rw [World.cell?, h.block g hlt hs]; exact hc
theorem Fr.frozen {S : Nat → Prop} {a b : World} (h : Fr S a b) {g j : Nat} {p : Option _} (hlt : g < a.heap.size) (hc : a.frozen? ⟨g, j, p⟩ = false) (hs : ¬ S g) : b.frozen? ⟨g, j, p⟩ = false := by
  rw [World.frozen?, h.block g hlt hs]; exact hc

/-- Bytes as cells. -/
def byteCells (l : List Nat) : List Value := l.map fun (x : Nat) => Value.int .u8 x
theorem length_byteCells (l : List Nat) : (byteCells l).length = l.length := by simp [byteCells]
theorem byteCells_get (l : List Nat) (j : Nat) : (byteCells l)[j]? = l[j]?.map fun (x : Nat) => Value.int .u8 x := by simp [byteCells]
theorem byteCells_set (l : List Nat) (j x : Nat) : (byteCells l).set j (Value.int .u8 (x : Int)) = byteCells (l.set j x) := by simp [byteCells, List.map_set]
theorem byteCells_append (a b : List Nat) : byteCells (a ++ b) = byteCells a ++ byteCells b := by simp [byteCells]
theorem byteCells_one (l : List Nat) : ∀ u ∈ byteCells l, u.oneCell' = true := by
  intro u hu
  simp only [byteCells, List.mem_map] at hu
  obtain ⟨x, _, rfl⟩ := hu
  rfl

theorem row_kept1 {w w' : World} {base e size n cap g m : Nat} {xs : List Value} {S : Nat → Prop} (h : w.ownsRow base e size (.slice (some ⟨g, 0, none⟩) m cap) n xs) (f : Fr S w w') (h2 : ¬ S g) : w'.ownsRow base e size (.slice (some ⟨g, 0, none⟩) m cap) n xs :=
  row_kept h f (fun k hk => by simp [Value.ownBlock] at hk; subst hk; exact h2)
/-- A row's block has the row's type. -/
theorem row_type {w : World} {base e size n cap g m : Nat} {xs : List Value} (h : w.ownsRow base e size (.slice (some ⟨g, 0, none⟩) m cap) n xs) : ∃ cur, w.heap[g]? = some (.cells cur e (0, 0)) := by
  rcases h.2 with ⟨e, _⟩ | ⟨g', cap', cur, e, _, hg, _⟩
  · cases e
  · simp only [Value.slice.injEq, Option.some.injEq, Addr.mk.injEq] at e
    obtain ⟨⟨rfl, _⟩, _⟩ := e
    exact ⟨cur, hg⟩

theorem row_form {w : World} {b e size n : Nat} {v : Value} {xs : List Value} (h : w.ownsRow b e size v n xs) (hn : 0 < n) : ∃ g cap, v = .slice (some ⟨g, 0, none⟩) n cap ∧ b ≤ g ∧ n ≤ cap ∧ cap ≤ maxLen := by
  rcases h.2 with ⟨_, e⟩ | ⟨g, cap, cur, rfl, hb, _, hc, hm, _⟩
  · omega
  · exact ⟨g, cap, rfl, hb, hc, hm⟩

theorem wpList_append_row {P : Program} (w : World) {ops : Array Oper} {rest : List Oper} {o : Oper} {a : Act} {Q : Exit → Act → World → Prop} (hgd : o.guard = none) (s x : Operand) (t : TypeId)
    (ho : o.op = Op.call { callee := Callee.builtin Builtin.append, args := #[s, x], argTypes := #[t, t] }) (e : TypeId) (i : TypeInfo) (z : Value) (size bytes : Nat)
    (ht : P.underlying t = some (TypeDesc.slice e)) (hi : P.info? e = some i) (hz : i.zero = some z) (hsize : i.size = size) (hby : i.bytes = bytes) (hzs : z.cells.size = size) (hsz : 0 < size)
    (v : Value) (n : Nat) (xs : List Value) (hs : a.eval s = v) (hown : w.ownsRow 0 e size v n xs) (ad : Addr) (m c : Nat) (news : List Value) (hx : a.eval x = Value.slice (some ad) m c) (hl : news.length = m * size)
    (hnews : ∀ (j : Nat) (u : Value), news[j]? = some u → w.cell? (ad.add j) = some u) (h1 : ∀ (u : Value), u ∈ news → u.oneCell' = true) (h63 : n + m ≤ maxLen) (hbytes : (n + m) * bytes ≤ 140737488355328) (hm : 0 < m)
    (h : ∀ (g' cap' : Nat) (w' : World), w'.ownsRow 0 e size (.slice (some ⟨g', 0, none⟩) (n + m) cap') (n + m) (xs ++ news) → w.grownBy w' v.ownBlock → (v.ownBlock = some g' ∨ w.heap.size ≤ g') → n + m ≤ cap' → cap' ≤ maxLen →
      wpList P ops Q rest (a.put o.dst (.slice (some ⟨g', 0, none⟩) (n + m) cap')) w') : wpList P ops Q (o :: rest) a w := by
  have hownc := hown
  rcases hown.2 with ⟨rfl, rfl⟩ | ⟨g, cap, cur, rfl, hb, hg, hc, hmx, hcs, htk⟩
  · have hxs : xs = [] := List.eq_nil_of_length_eq_zero (by have := hown.1; omega)
    subst hxs
    refine wpList_append_grows w hgd s x t ho e i z size bytes ht hi hz hsize hby hzs hsz none 0 0 [] hs (fun _ => ⟨rfl, rfl⟩) (by simp) (fun b hb => by cases hb) ad m c news hx hl hnews h1 (by omega) h63 hbytes ?_
    intro v' w' ho' hgr
    obtain ⟨g', cap', rfl, hb', hc', hm'⟩ := row_form ho' (by omega)
    exact h g' cap' w' (ownsRow_base ho' (fun _ _ => Nat.zero_le _)) hgr (Or.inr hb') hc' hm'
  · by_cases hroom : n + m ≤ cap
    · refine wpList_append_fits w hgd s x t ho 0 e i size ht hi hsize g n cap xs hs hownc ad m c news hx hl hnews h1 hroom ?_
      intro w' ho' hgr
      exact h g cap w' ho' hgr (Or.inl rfl) hroom hmx
    · refine wpList_append_grows w hgd s x t ho e i z size bytes ht hi hz hsize hby hzs hsz (some ⟨g, 0, none⟩) n cap xs hs (fun hh => by cases hh) hown.1 ?_ ad m c news hx hl hnews h1 (by omega) h63 hbytes ?_
      · intro b hb j u hu
        simp only [Option.some.injEq] at hb
        subst hb
        exact hownc.cells (g := g) rfl j u hu
      · intro v' w' ho' hgr
        obtain ⟨g', cap', rfl, hb', hc', hm'⟩ := row_form ho' (by omega)
        refine h g' cap' w' (ownsRow_base ho' (fun _ _ => Nat.zero_le _)) ?_ (Or.inr hb') hc' hm'
        exact ⟨hgr.os, hgr.tape, hgr.output, hgr.size, fun k hk _ => hgr.block k hk (by simp)⟩

/-- A block of seven cells. -/
theorem cell_of_seven {w : World} {b : Nat} {x0 x1 x2 x3 x4 x5 x6 : Value} {t : TypeId} (h : w.heap[b]? = some (.cells #[x0, x1, x2, x3, x4, x5, x6] t (0, 0))) :
    w.cell? ⟨b, 0, none⟩ = some x0 ∧ w.cell? ⟨b, 1, none⟩ = some x1 ∧ w.cell? ⟨b, 2, none⟩ = some x2 ∧ w.cell? ⟨b, 3, none⟩ = some x3 ∧ w.cell? ⟨b, 4, none⟩ = some x4 ∧ w.cell? ⟨b, 5, none⟩ = some x5 ∧ w.cell? ⟨b, 6, none⟩ = some x6 ∧ (∀ j, w.frozen? ⟨b, j, none⟩ = false) := by
  refine ⟨?_, ?_, ?_, ?_, ?_, ?_, ?_, fun j => ?_⟩ <;> simp [World.cell?, World.frozen?, h]
theorem seven_set {w : World} {b j : Nat} {xs : Array Value} {u : Value} {t : TypeId} (h : w.heap[b]? = some (.cells xs t (0, 0))) :
    (w.setCell ⟨b, j, none⟩ u).heap[b]? = some (.cells (xs.setIfInBounds j u) t (0, 0)) := by
  simp [World.setCell, Array.getElem?_modify, h]

end Go.Proofs.Ytkggdnkmaldmlab

/- A context: its row, its likelier bit, what it learns. -/
namespace Go.Proofs.Ytkggdnkmaldmlab
open Go.RowKit

set_option maxRecDepth 100000 in
set_option maxHeartbeats 1000000 in
theorem likelier_at (w : World) (g k x : Nat) (hc : w.cell? ⟨g, k, none⟩ = some (.int .u8 x)) (hx : x < 94) :
    Calls Try.prog 80 #[.pointer (some ⟨g, k, none⟩)] w fun e w' => e = .returned (.int .u8 (x % 2 : Nat)) ∧ w' = w := by
  go_enter Try.func80, Try.ntmps80
  go_wp2_with fail
  go_ret
  exact ⟨rfl, rfl⟩

set_option maxRecDepth 100000 in
set_option maxHeartbeats 1000000 in
theorem newCell_at (w : World) (s b : Nat) (hs : s < 47) (hb : b < 2) :
    Calls Try.prog 84 #[.int .u8 s, .int .u8 b] w fun e w' => e = .returned (.int .u8 (2 * s + b : Nat)) ∧ w' = w := by
  go_enter Try.func84, Try.ntmps84
  go_wp2_with fail
  go_ret
  exact ⟨rfl, rfl⟩

/-- What a state's row says. -/
structure IsRow (s q m l : Nat) (b : Bool) : Prop where
  hs : s < 47
  hq : q = rQ s
  hm : m = rM s
  hl : l = rL s
  hb : b = rS s

set_option maxRecDepth 100000 in
set_option maxHeartbeats 1000000 in
theorem row_at (w : World) (g k x : Nat) (hc : w.cell? ⟨g, k, none⟩ = some (.int .u8 x)) (hx : x < 94) (q m l : Nat) (b : Bool) (hr : IsRow (x / 2) q m l b) :
    Calls Try.prog 79 #[.pointer (some ⟨g, k, none⟩)] w fun e w' => e = .returned (.agg #[.int .u32 q, .int .u8 m, .int .u8 l, .bool b]) ∧ Fr (fun _ => False) w w' := by
  have hx2 : Hid (∀ w, Calls Try.prog 83 #[.int .i64 ((x / 2 : Nat) : Int)] w fun e w' => e = .returned (.agg #[.int .u32 q, .int .u8 m, .int .u8 l, .bool b]) ∧ ∃ o, w' = w.alloc o) := by
    intro w
    rw [hr.hq, hr.hm, hr.hl, hr.hb]
    exact row_of w (x / 2) hr.hs
  have hlt : g < w.heap.size := World.block_lt_of_cell? w ⟨g, k, none⟩ hc
  clear hr
  go_enter Try.func79, Try.ntmps79
  go_wp2_with (first | (go_at_call 83; refine (hx2.out _).mono ?_; rintro e w' ⟨rfl, o, rfl⟩))
  go_returns
  exact ⟨rfl, ((Fr.refl _ _).alloc _).alloc _⟩

theorem IsRow.of {x : Nat} (hx : x < 94) : IsRow (x / 2) (rQ (x / 2)) (rM (x / 2)) (rL (x / 2)) (rS (x / 2)) := ⟨by omega, rfl, rfl, rfl, rfl⟩
theorem IsRow.bd {s q m l : Nat} {b : Bool} (h : IsRow s q m l b) : 1 ≤ q ∧ q ≤ 22017 ∧ m < 47 ∧ l < 47 := by
  rw [h.hq, h.hm, h.hl]
  exact ⟨(rQ_bd s h.hs).1, (rQ_bd s h.hs).2, rM_bd s h.hs, rL_bd s h.hs⟩

set_option maxRecDepth 100000 in
set_option maxHeartbeats 1000000 in
theorem learn_at (w : World) (g k x : Nat) (hc : w.cell? ⟨g, k, none⟩ = some (.int .u8 x)) (hf : w.frozen? ⟨g, k, none⟩ = false) (hx : x < 94) (b : Bool) :
    Calls Try.prog 81 #[.pointer (some ⟨g, k, none⟩), .bool b] w fun e w' => e = .returned (.tuple #[]) ∧ ∃ w1, Fr (fun _ => False) w w1 ∧ Fr (fun _ => False) (w1.setCell ⟨g, k, none⟩ (.int .u8 (learnP b x : Nat))) w' := by
  have hlt : g < w.heap.size := World.block_lt_of_cell? w ⟨g, k, none⟩ hc
  obtain ⟨q, m, l, t, HR⟩ : ∃ q m l t, Hid (IsRow (x / 2) q m l t) := ⟨_, _, _, _, IsRow.of hx⟩
  have HX : Hid (x < 94) := hx
  obtain ⟨hq1, hq2, hm, hl⟩ := HR.out.bd
  have HL : Hid (learnP b x = if b then 2 * m + x % 2 else 2 * l + (if t then 1 - x % 2 else x % 2)) := by
    unfold Hid learnP; rw [HR.out.hm, HR.out.hl, HR.out.hb]
  obtain ⟨y, HY⟩ : ∃ y, Hid (y = x % 2) := ⟨_, rfl⟩
  have hy : y < 2 := by rw [HY.out]; omega
  have HN : Hid (∀ w, Calls Try.prog 84 #[.int .u8 m, .int .u8 y] w fun e w' => e = .returned (.int .u8 (2 * m + y : Nat)) ∧ w' = w) := fun w => newCell_at w m y hm hy
  have HN2 : Hid (∀ w, ∀ z : Nat, z < 2 → Calls Try.prog 84 #[.int .u8 l, .int .u8 z] w fun e w' => e = .returned (.int .u8 (2 * l + z : Nat)) ∧ w' = w) := fun w z hz => newCell_at w l z hl hz
  cases b
  · cases t
    · go_enter Try.func81, Try.ntmps81
      go_wp2_with (first | (go_at_call 79; refine (row_at _ g k x hc HX.out q m l _ HR.out).mono ?_; rintro e w1 ⟨rfl, hf1⟩; have hc1 := hf1.cell hc (fun h => h); have hfr1 := hf1.frozen hlt hf (fun h => h); have hlt1 : g < w1.heap.size := Nat.lt_of_lt_of_le hlt hf1.size; have HF1 : Hid (Fr (fun _ => False) w w1) := hf1; clear hf1) | (go_at_call 80; refine (likelier_at _ g k x hc1 HX.out).mono ?_; rw [← HY.out]; rintro e w2 ⟨rfl, rfl⟩) | (go_at_call 84; refine (HN2.out _ y hy).mono ?_; rintro e w3 ⟨rfl, rfl⟩))
      go_end0
      refine ⟨rfl, _, HF1.out, ?_⟩
      rw [HL.out, ← HY.out]; exact (Fr.refl _ _).alloc _
    · rcases (by omega : y = 0 ∨ y = 1) with rfl | rfl
      · go_enter Try.func81, Try.ntmps81
        go_wp2_with (first | (go_at_call 79; refine (row_at _ g k x hc HX.out q m l _ HR.out).mono ?_; rintro e w1 ⟨rfl, hf1⟩; have hc1 := hf1.cell hc (fun h => h); have hfr1 := hf1.frozen hlt hf (fun h => h); have hlt1 : g < w1.heap.size := Nat.lt_of_lt_of_le hlt hf1.size; have HF1 : Hid (Fr (fun _ => False) w w1) := hf1; clear hf1) | (go_at_call 80; refine (likelier_at _ g k x hc1 HX.out).mono ?_; rw [← HY.out]; rintro e w2 ⟨rfl, rfl⟩) | (go_at_call 84; refine (HN2.out _ 1 (by decide)).mono ?_; rintro e w3 ⟨rfl, rfl⟩))
        go_end0
        refine ⟨rfl, _, HF1.out, ?_⟩
        rw [HL.out, ← HY.out]; exact (Fr.refl _ _).alloc _
      · go_enter Try.func81, Try.ntmps81
        go_wp2_with (first | (go_at_call 79; refine (row_at _ g k x hc HX.out q m l _ HR.out).mono ?_; rintro e w1 ⟨rfl, hf1⟩; have hc1 := hf1.cell hc (fun h => h); have hfr1 := hf1.frozen hlt hf (fun h => h); have hlt1 : g < w1.heap.size := Nat.lt_of_lt_of_le hlt hf1.size; have HF1 : Hid (Fr (fun _ => False) w w1) := hf1; clear hf1) | (go_at_call 80; refine (likelier_at _ g k x hc1 HX.out).mono ?_; rw [← HY.out]; rintro e w2 ⟨rfl, rfl⟩) | (go_at_call 84; refine (HN2.out _ 0 (by decide)).mono ?_; rintro e w3 ⟨rfl, rfl⟩))
        go_end0
        refine ⟨rfl, _, HF1.out, ?_⟩
        rw [HL.out, ← HY.out]; exact (Fr.refl _ _).alloc _
  · go_enter Try.func81, Try.ntmps81
    go_wp2_with (first | (go_at_call 79; refine (row_at _ g k x hc HX.out q m l _ HR.out).mono ?_; rintro e w1 ⟨rfl, hf1⟩; have hc1 := hf1.cell hc (fun h => h); have hfr1 := hf1.frozen hlt hf (fun h => h); have hlt1 : g < w1.heap.size := Nat.lt_of_lt_of_le hlt hf1.size; have HF1 : Hid (Fr (fun _ => False) w w1) := hf1; clear hf1) | (go_at_call 80; refine (likelier_at _ g k x hc1 HX.out).mono ?_; rw [← HY.out]; rintro e w2 ⟨rfl, rfl⟩) | (go_at_call 84; refine (HN.out _).mono ?_; rintro e w3 ⟨rfl, rfl⟩))
    (try simp only [Exit.inBlock, Exit.then]); refine bodyPost_ret (results_none rfl _ _ _) rfl ?_
    refine ⟨rfl, _, HF1.out, ?_⟩
    rw [HL.out, ← HY.out]; exact (Fr.refl _ _).alloc _

end Go.Proofs.Ytkggdnkmaldmlab

/- A coder in memory. -/
namespace Go.Proofs.Ytkggdnkmaldmlab
open Go.RowKit

/-- A coder: its block bc, its contexts' block gc, its bytes' block gb. -/
structure CoAt (w : World) (bc gc cc gb cb : Nat) (o : Co) : Prop where
  blk : w.heap[bc]? = some (.cells #[.slice (some ⟨gc, 0, none⟩) o.x.length cc, .int .i64 (o.made : Nat), .int .u32 (o.s.a : Nat), .int .u32 (o.s.c : Nat), .int .i64 (o.s.t : Nat), .slice (some ⟨gb, 0, none⟩) (o.s.b.length + 1) cb, .bool false] 55 (0, 0))
  xs : w.ownsRow 0 121 1 (.slice (some ⟨gc, 0, none⟩) o.x.length cc) o.x.length (byteCells o.x)
  bs : w.ownsRow 0 5 1 (.slice (some ⟨gb, 0, none⟩) (o.s.b.length + 1) cb) (o.s.b.length + 1) (byteCells o.s.bytes)

theorem CoAt.lt {w : World} {bc gc cc gb cb : Nat} {o : Co} (h : CoAt w bc gc cc gb cb o) : bc < w.heap.size := lt_of_block h.blk
theorem CoAt.xlt {w : World} {bc gc cc gb cb : Nat} {o : Co} (h : CoAt w bc gc cc gb cb o) : gc < w.heap.size := (h.xs.lt gc rfl).2
theorem CoAt.blt {w : World} {bc gc cc gb cb : Nat} {o : Co} (h : CoAt w bc gc cc gb cb o) : gb < w.heap.size := (h.bs.lt gb rfl).2
theorem CoAt.nex {w : World} {bc gc cc gb cb : Nat} {o : Co} (h : CoAt w bc gc cc gb cb o) : gc ≠ bc := by
  intro e; subst e
  obtain ⟨cur, hg⟩ := row_type h.xs
  rw [h.blk] at hg; simp at hg
theorem CoAt.neb {w : World} {bc gc cc gb cb : Nat} {o : Co} (h : CoAt w bc gc cc gb cb o) : gb ≠ bc := by
  intro e; subst e
  obtain ⟨cur, hg⟩ := row_type h.bs
  rw [h.blk] at hg; simp at hg
theorem CoAt.nexb {w : World} {bc gc cc gb cb : Nat} {o : Co} (h : CoAt w bc gc cc gb cb o) : gb ≠ gc := by
  intro e; subst e
  obtain ⟨cur, hg⟩ := row_type h.bs
  obtain ⟨cur', hg'⟩ := row_type h.xs
  rw [hg'] at hg; simp at hg
theorem CoAt.kept {w w' : World} {bc gc cc gb cb : Nat} {o : Co} {S : Nat → Prop} (h : CoAt w bc gc cc gb cb o) (f : Fr S w w') (h1 : ¬ S bc) (h2 : ¬ S gc) (h3 : ¬ S gb) : CoAt w' bc gc cc gb cb o :=
  ⟨by rw [f.block bc h.lt h1]; exact h.blk, row_kept1 h.xs f h2, row_kept1 h.bs f h3⟩
theorem CoAt.drewN {w : World} {bc gc cc gb cb : Nat} {o : Co} (h : CoAt w bc gc cc gb cb o) (n : Nat) : CoAt (w.drewN n) bc gc cc gb cb o :=
  h.kept (S := fun _ => False) ((Fr.refl _ _).drewN n) (fun hh => hh) (fun hh => hh) (fun hh => hh)

/-- What a step of the coder may touch. -/
structure CStep (bc gc gb gb' : Nat) (w w' : World) : Prop where
  fr : Fr (fun k => k = bc ∨ k = gc ∨ k = gb) w w'
  row : gb' = gb ∨ w.heap.size ≤ gb'

theorem CStep.refl (bc gc gb : Nat) (w : World) : CStep bc gc gb gb w w := ⟨Fr.refl _ _, Or.inl rfl⟩
theorem CStep.trans {bc gc gb gb1 gb2 : Nat} {w w1 w2 : World} (h : CStep bc gc gb gb1 w w1) (k : CStep bc gc gb1 gb2 w1 w2) : CStep bc gc gb gb2 w w2 := by
  refine ⟨h.fr.trans k.fr ?_, ?_⟩
  · rintro i hi (e | e | e)
    · exact Or.inl e
    · exact Or.inr (Or.inl e)
    · rcases h.row with r | r
      · exact Or.inr (Or.inr (r ▸ e))
      · omega
  · have hsz := h.fr.size
    rcases k.row with q | q
    · rcases h.row with r | r
      · exact Or.inl (q.trans r)
      · exact Or.inr (by omega)
    · exact Or.inr (by omega)
theorem CStep.drewN {bc gc gb gb' : Nat} {w w' : World} (h : CStep bc gc gb gb' w w') (n : Nat) : CStep bc gc gb gb' w (w'.drewN n) := ⟨h.fr.drewN n, h.row⟩
theorem CStep.of_fr {bc gc gb : Nat} {w w' : World} (h : Fr (fun k => k = bc ∨ k = gc ∨ k = gb) w w') : CStep bc gc gb gb w w' := ⟨h, Or.inl rfl⟩

theorem Fr.set1 (w : World) (b j : Nat) (u : Value) : Fr (fun k => k = b) w (w.setCell ⟨b, j, none⟩ u) := Fr.setCell (Fr.refl (fun k => k = b) w) (p := ⟨b, j, none⟩) (fun _ => rfl) u

/-- A register is written. -/
theorem CoAt.setA {w : World} {bc gc cc gb cb : Nat} {o : Co} (h : CoAt w bc gc cc gb cb o) (v : Nat) : CoAt (w.setCell ⟨bc, 2, none⟩ (.int .u32 (v : Int))) bc gc cc gb cb { o with s := { o.s with a := v } } := by
  have f : Fr (fun k => k = bc) w (w.setCell ⟨bc, 2, none⟩ (.int .u32 (v : Int))) := Fr.set1 _ _ _ _
  exact ⟨by rw [seven_set h.blk]; rfl, row_kept1 h.xs f h.nex, row_kept1 h.bs f h.neb⟩
theorem CoAt.setC {w : World} {bc gc cc gb cb : Nat} {o : Co} (h : CoAt w bc gc cc gb cb o) (v : Nat) : CoAt (w.setCell ⟨bc, 3, none⟩ (.int .u32 (v : Int))) bc gc cc gb cb { o with s := { o.s with c := v } } := by
  have f : Fr (fun k => k = bc) w (w.setCell ⟨bc, 3, none⟩ (.int .u32 (v : Int))) := Fr.set1 _ _ _ _
  exact ⟨by rw [seven_set h.blk]; rfl, row_kept1 h.xs f h.nex, row_kept1 h.bs f h.neb⟩
theorem CoAt.setT {w : World} {bc gc cc gb cb : Nat} {o : Co} (h : CoAt w bc gc cc gb cb o) (v : Nat) : CoAt (w.setCell ⟨bc, 4, none⟩ (.int .i64 (v : Int))) bc gc cc gb cb { o with s := { o.s with t := v } } := by
  have f : Fr (fun k => k = bc) w (w.setCell ⟨bc, 4, none⟩ (.int .i64 (v : Int))) := Fr.set1 _ _ _ _
  exact ⟨by rw [seven_set h.blk]; rfl, row_kept1 h.xs f h.nex, row_kept1 h.bs f h.neb⟩
theorem CoAt.setMade {w : World} {bc gc cc gb cb : Nat} {o : Co} (h : CoAt w bc gc cc gb cb o) (v : Nat) : CoAt (w.setCell ⟨bc, 1, none⟩ (.int .i64 (v : Int))) bc gc cc gb cb { o with made := v } := by
  have f : Fr (fun k => k = bc) w (w.setCell ⟨bc, 1, none⟩ (.int .i64 (v : Int))) := Fr.set1 _ _ _ _
  exact ⟨by rw [seven_set h.blk]; rfl, row_kept1 h.xs f h.nex, row_kept1 h.bs f h.neb⟩
/-- A context is written. -/
theorem CoAt.setX {w : World} {bc gc cc gb cb : Nat} {o : Co} (h : CoAt w bc gc cc gb cb o) (k v : Nat) : CoAt (w.setCell ⟨gc, k, none⟩ (.int .u8 (v : Int))) bc gc cc gb cb { o with x := o.x.set k v } := by
  have f : Fr (fun k => k = gc) w (w.setCell ⟨gc, k, none⟩ (.int .u8 (v : Int))) := Fr.set1 _ _ _ _
  refine ⟨?_, ?_, row_kept1 h.bs f h.nexb⟩
  · rw [f.block bc h.lt (fun e => h.nex e.symm), List.length_set]; exact h.blk
  · have := (h.xs.stored k (.int .u8 (v : Int))).1
    rw [byteCells_set] at this
    rw [List.length_set]; exact this
/-- The last byte is written. -/
theorem CoAt.setL {w : World} {bc gc cc gb cb : Nat} {o : Co} (h : CoAt w bc gc cc gb cb o) (v : Nat) : CoAt (w.setCell ⟨gb, o.s.b.length, none⟩ (.int .u8 (v : Int))) bc gc cc gb cb { o with s := { o.s with l := v } } := by
  have f : Fr (fun k => k = gb) w (w.setCell ⟨gb, o.s.b.length, none⟩ (.int .u8 (v : Int))) := Fr.set1 _ _ _ _
  refine ⟨?_, row_kept1 h.xs f (fun e => h.nexb e.symm), ?_⟩
  · rw [f.block bc h.lt (fun e => h.neb e.symm)]; exact h.blk
  · have := (h.bs.stored o.s.b.length (.int .u8 (v : Int))).1
    rw [byteCells_set] at this
    have e : o.s.bytes.set o.s.b.length v = ({ o.s with l := v } : Cs).bytes := by simp [Cs.bytes]
    rw [e] at this; exact this
theorem CoAt.last {w : World} {bc gc cc gb cb : Nat} {o : Co} (h : CoAt w bc gc cc gb cb o) : w.cell? ⟨gb, o.s.b.length, none⟩ = some (.int .u8 (o.s.l : Int)) := by
  rw [h.bs.cellAt _ (by omega), byteCells_get]; simp [Cs.bytes]
theorem CoAt.ctx {w : World} {bc gc cc gb cb : Nat} {o : Co} (h : CoAt w bc gc cc gb cb o) {k : Nat} (hk : k < o.x.length) : w.cell? ⟨gc, k, none⟩ = some (.int .u8 (o.x.getD k 0 : Nat)) := by
  rw [h.xs.cellAt _ (by omega), byteCells_get, List.getD_eq_getElem?_getD, List.getElem?_eq_getElem hk]; rfl

end Go.Proofs.Ytkggdnkmaldmlab
