/- Rows of one's own, appended to; struct keys of a map; bitmaps in a row. -/
import Derived.Maps.Own
import Derived.Maps.OwnOps
import Derived.Maps.Views
import Derived.Maps.OwnSet
import Derived.Maps.Keyed
import Derived.DeepKeys4
import Derived.Carry
import Derived.WalkSmall
import Derived.WalkSpells
import Derived.WalkLawsBesides
import Derived.Test.YtodgdbbhllejkaaKNm
namespace Go.Proofs.Ytodgdbbhllejkaa
open Go.RowKit Go.Maps Go.WideMaps

theorem row_form {w : World} {b e size n : Nat} {v : Value} {xs : List Value} (h : w.ownsRow b e size v n xs) (hn : 0 < n) : ∃ g cap, v = .slice (some ⟨g, 0, none⟩) n cap ∧ b ≤ g ∧ n ≤ cap ∧ cap ≤ maxLen := by
  rcases h.2 with ⟨_, e⟩ | ⟨g, cap, cur, rfl, hb, _, hc, hm, _⟩
  · omega
  · exact ⟨g, cap, rfl, hb, hc, hm⟩
theorem wpList_append_row {P : Program} (w : World) {ops : Array Oper} {rest : List Oper} {o : Oper} {a : Act} {Q : Exit → Act → World → Prop} (hgd : o.guard = none) (s x : Operand) (t : TypeId)
    (ho : o.op = Op.call { callee := Callee.builtin Builtin.append, args := #[s, x], argTypes := #[t, t] }) (e : TypeId) (i : TypeInfo) (z : Value) (size bytes : Nat)
    (ht : P.underlying t = some (TypeDesc.slice e)) (hi : P.info? e = some i) (hz : i.zero = some z) (hsize : i.size = size) (hby : i.bytes = bytes) (hzs : z.cells.size = size) (hsz : 0 < size)
    (v : Value) (n : Nat) (xs : List Value) (hs : a.eval s = v) (hown : w.ownsRow 0 e size v n xs) (ad : Addr) (m c : Nat) (news : List Value) (hx : a.eval x = Value.slice (some ad) m c) (hl : news.length = m * size)
    (hnews : ∀ (j : Nat) (u : Value), news[j]? = some u → w.cell? (ad.add j) = some u) (h1 : ∀ (u : Value), u ∈ news → u.oneCell' = true) (h63 : n + m ≤ maxLen) (hbytes : (n + m) * bytes ≤ 140737488355328) (hm : 0 < m)
    (h : ∀ (g' cap' : Nat) (w' : World), w'.ownsRow 0 e size (.slice (some ⟨g', 0, none⟩) (n + m) cap') (n + m) (xs ++ news) → w.grownBy w' v.ownBlock → (v.ownBlock = some g' ∨ w.heap.size ≤ g') → n + m ≤ cap' → cap' ≤ maxLen →
      wpList P ops Q rest (a.put o.dst (.slice (some ⟨g', 0, none⟩) (n + m) cap')) w') : wpList P ops Q (o :: rest) a w := by
  have hownc := hown
  rcases hown.2 with ⟨rfl, rfl⟩ | ⟨g, cap, cur, rfl, hb, hg, hc, hmx, hcs, htk⟩
  · have hxs : xs = [] := List.eq_nil_of_length_eq_zero (by have := hown.1; omega)
    subst hxs
    refine wpList_append_grows w hgd s x t ho e i z size bytes ht hi hz hsize hby hzs hsz none 0 0 [] hs (fun _ => ⟨rfl, rfl⟩) (by simp) (fun b hb => by cases hb) ad m c news hx hl hnews h1 (by omega) h63 hbytes ?_
    intro v' w' ho' hgr
    obtain ⟨g', cap', rfl, hb', hc', hm'⟩ := row_form ho' (by omega)
    exact h g' cap' w' (ownsRow_base ho' (fun _ _ => Nat.zero_le _)) hgr (Or.inr hb') hc' hm'
  · by_cases hroom : n + m ≤ cap
    · refine wpList_append_fits w hgd s x t ho 0 e i size ht hi hsize g n cap xs hs hownc ad m c news hx hl hnews h1 hroom ?_
      intro w' ho' hgr
      exact h g cap w' ho' hgr (Or.inl rfl) hroom hmx
    · refine wpList_append_grows w hgd s x t ho e i z size bytes ht hi hz hsize hby hzs hsz (some ⟨g, 0, none⟩) n cap xs hs (fun hh => by cases hh) hown.1 ?_ ad m c news hx hl hnews h1 (by omega) h63 hbytes ?_
      · intro b hb j u hu
        simp only [Option.some.injEq] at hb
        subst hb
        exact hownc.cells (g := g) rfl j u hu
      · intro v' w' ho' hgr
        obtain ⟨g', cap', rfl, hb', hc', hm'⟩ := row_form ho' (by omega)
        refine h g' cap' w' (ownsRow_base ho' (fun _ _ => Nat.zero_le _)) ?_ (Or.inr hb') hc' hm'
        exact ⟨hgr.os, hgr.tape, hgr.output, hgr.size, fun k hk _ => hgr.block k hk (by simp)⟩
/-- A row of runs is not a row of rows. -/
theorem own_ne {w : World} {base base' e e' s s' n n' g : Nat} {v : Value} {xs ys : List Value} {c m : Nat} (h : w.ownsRow base e s v n xs) (h' : w.ownsRow base' e' s' (.slice (some ⟨g, 0, none⟩) m c) n' ys) (he : e ≠ e') : v.ownBlock ≠ some g := by
  intro hv
  rcases h.2 with ⟨rfl, _⟩ | ⟨g1, c1, cur, rfl, _, hg1, _⟩
  · simp [Value.ownBlock] at hv
  · simp [Value.ownBlock] at hv
    subst hv
    rcases h'.2 with ⟨e1, _⟩ | ⟨g2, c2, cur2, e2, _, hg2, _⟩
    · cases e1
    · simp only [Value.slice.injEq, Option.some.injEq, Addr.mk.injEq] at e2
      obtain ⟨⟨rfl, _⟩, _⟩ := e2
      rw [hg1] at hg2
      simp at hg2
      exact he hg2.2
theorem own_slice {w : World} {base e s n : Nat} {v : Value} {xs : List Value} (h : w.ownsRow base e s v n xs) : ∃ ao c, v = .slice ao n c := by
  rcases h.2 with ⟨rfl, rfl⟩ | ⟨g1, c1, cur, rfl, _⟩
  · exact ⟨_, _, rfl⟩
  · exact ⟨_, _, rfl⟩
theorem cell_three_new (w : World) (a b c : Value) (t : TypeId) (j : Nat) (u : Value) (h : [a, b, c][j]? = some u) : (w.alloc (.cells #[a, b, c] t)).cell? ((⟨w.heap.size, 0, none⟩ : Addr).add j) = some u := by
  match j, h with
  | 0, h => simp at h; subst h; simp [Addr.add]
  | 1, h => simp at h; subst h; simp [Addr.add]
  | 2, h => simp at h; subst h; simp [Addr.add]
  | j + 3, h => simp at h
theorem row_not_map {w : World} {base e s n b cl : Nat} {v : Value} {xs : List Value} {es : Array MapEntry} (h : w.ownsRow base e s v n xs) (hb : w.heap[b]? = some (.map es cl)) : v.ownBlock ≠ some b := by
  intro hv
  rcases h.2 with ⟨rfl, _⟩ | ⟨g1, c1, cur, rfl, _, hg1, _⟩
  · simp [Value.ownBlock] at hv
  · simp [Value.ownBlock] at hv
    subst hv
    rw [hb] at hg1
    simp at hg1
/-- Rows of other elements are other blocks. -/
theorem own_ne2 {w : World} {base base' e e' s s' n n' : Nat} {v v' : Value} {xs ys : List Value} (h : w.ownsRow base e s v n xs) (h' : w.ownsRow base' e' s' v' n' ys) (he : e ≠ e') : v.ownBlock = none ∨ v.ownBlock ≠ v'.ownBlock := by
  rcases h'.2 with ⟨rfl, _⟩ | ⟨g2, c2, cur2, rfl, _⟩
  · cases hv : v.ownBlock with
    | none => exact Or.inl rfl
    | some g => exact Or.inr (by simp [Value.ownBlock])
  · exact Or.inr (own_ne h h' he)
def heldR : Value → Option (DataW Value × List MemPlace) := fun v => some (.held v, [])
/-- 'm[k]' at the operation: what was stored there. -/
theorem wpList_lookup_held {P : Program} (w : World) {ops : Array Oper} {rest : List Oper} {o : Oper} {a : Act} {Q : Exit → Act → World → Prop}
    (hg : o.guard = none) (m x : Operand) (t : TypeId) (hop : o.op = Op.lookup t m x false)
    (k e : TypeId) (K : Keyed P k) (ht : P.underlying t = some (.map k e)) (z : Value) (hz : (zeroValue e).run P w = .ok z w) (b n : Nat) (D : DataW Value)
    (hm : a.eval m = .map (some b)) (hown : w.ownsMap P k heldR b n D) (key : Value) (kl : Lit) (hx : a.eval x = key) (hkey : keyOf P k key = some kl) (v : Value) (hv : D.atKey kl (.held z) = .held v)
    (hK : wpList P ops Q rest (a.put o.dst v) w) :
    wpList P ops Q (o :: rest) a w := by
  refine wpList_plain hg fun K' hK' => ?_
  obtain ⟨v', ps, hrun, hR⟩ := hown.lookup K ht hz (zd := .held z) (zp := []) rfl hkey
  rw [hv] at hR
  simp only [heldR, Option.some.injEq, Prod.mk.injEq, DataW.held.injEq] at hR
  obtain ⟨rfl, _⟩ := hR
  unfold Oper.wp
  simp [execOp, hop, hm, hx, hrun, Result.andThen]
  exact hK' _ _ hK

set_option maxRecDepth 100000 in
set_option maxHeartbeats 1000000 in
theorem clone_some (a : Addr) (n cap : Nat) (l : List Nat) (w : World) (hl : l.length = n) (hn : n ≤ 1048576) (hc : ∀ (j : Nat) (u : Value), (wordCells l)[j]? = some u → w.cell? (a.add j) = some u) :
    Calls Try.prog 58 #[.slice (some a) n cap] w fun e w' => ∃ rv, e = .returned rv ∧ w'.ownsRow w.heap.size 23 1 rv n (wordCells l) ∧ Fr (fun _ => False) w w' ∧ rv ≠ .slice none 0 0 := by
  have q35 : ∀ (w : World) (a : Option Addr) (n c n' c' : Nat), (binOp .eql 46 (.slice a n c) (.slice none n' c')).run Try.prog w = .ok (.bool a.isNone) w := fun w a n c n' c' => Lib.run_eql_slice_nil w 46 23 a n c n' c' Try.underlying46
  obtain ⟨i0, hi, hz0, hz1, hz2⟩ := info_parts Try.infoUw
  have HC : Hid (∀ (j : Nat) (u : Value), (wordCells l)[j]? = some u → w.cell? (a.add j) = some u) := hc
  clear hc
  have hown : (w.alloc (.cells #[] 23)).ownsRow w.heap.size 23 1 (.slice (some ⟨w.heap.size, 0, none⟩) 0 0) 0 [] := World.ownsRow_made w #[] 0 (Nat.le_refl _) (by decide) rfl
  go_enter Try.func58, Try.ntmps58
  go_wp2_with (first | (at_builtin; refine wpList_append_own _ rfl _ _ 46 rfl w.heap.size 23 i0 (.int .u64 0) 1 8 Try.underlying46 hi hz0 hz1 hz2 rfl (by decide) _ _ _ rfl hown a n cap (wordCells l) rfl ?c0 ?c1 ?c2 ?c3 ?c4 ?c5 ?_))
  case c0 => rw [length_wordCells]; omega
  case c1 => exact fun j u hu => cell_later ((Below.refl _ _).alloc (Nat.le_refl _) _) (HC.out j u hu)
  case c2 => exact wordCells_one l
  case c3 => unfold maxLen; omega
  case c4 => omega
  case c5 => simp
  intro v' w1 hown' hgrow hnn
  have HO : Hid (w1.ownsRow w.heap.size 23 1 v' n (wordCells l)) := hown'
  have HB : Hid (Below w.heap.size w w1) := ((Below.refl _ _).alloc (Nat.le_refl _) _).grown hgrow (by simp) (fun k hk => by simp [Value.ownBlock] at hk; omega)
  have HV : Hid (v' ≠ .slice none 0 0) := hnn
  clear hown' hgrow hnn hown
  go_wp2
  go_ret
  exact ⟨v', rfl, HO.out, Fr.of_below HB.out _, HV.out⟩

set_option maxRecDepth 10000 in
theorem wide77 : (match Try.prog.underlying 77 with | some (.array _ _) | some (.struct _) => true | _ => false) = true := by rw [Try.underlying77]
theorem law77 : KeyLaw Try.prog 77 := deep_law_laid Try.laidOut (m := 2) (by omega) (of_decide_eq_true (by kernel_rfl)) (by kernel_rfl) wide77
theorem Try.keyed77 : Keyed Try.prog 77 := Keyed.of_law law77
theorem kS_some (x y : Int) (hx : (Lit.int .i64 x).wf = true) (hy : (Lit.int .i64 y).wf = true) : keyOf Try.prog 77 (.agg #[.int .i64 x, .int .i64 y]) = some (.string (keyBytes [.int .i64 x, .int .i64 y])) := by
  have h1 : Try.prog.keyType 77 = true := by kernel_rfl
  have h2 : Try.prog.cellsOf 77 = 2 := by kernel_rfl
  have h3 : Try.prog.cellsOf 3 = 1 := by kernel_rfl
  have hf : (Value.agg #[.int .i64 x, .int .i64 y]).formed Try.prog 77 = true := by simp [Value.formed, Try.underlying77, h2]
  obtain ⟨n, ht⟩ : ∃ n, Try.prog.types.size + 1 = n + 2 := ⟨119, by kernel_rfl⟩
  unfold keyOf
  rw [Try.underlying77]
  simp only [h1, hf, Bool.and_self, if_true]
  rw [ht]
  simp [Program.keyLits, Try.underlying77, Try.underlying3, h2, h3, hx, hy, Value.cells]
/-- The key of a size. -/
def kS (x y : Nat) : Lit := .string (keyBytes [.int .i64 (x : Int), .int .i64 (y : Int)])
theorem wf_nat {x : Nat} (h : x ≤ 1048576) : (Lit.int .i64 (x : Int)).wf = true := by
  show (decide ((-9223372036854775808 : Int) ≤ x) && decide ((x : Int) ≤ 9223372036854775807)) = true
  rw [decide_eq_true (by omega), decide_eq_true (by omega)]; rfl
theorem keyS (x y : Nat) (hx : x ≤ 1048576) (hy : y ≤ 1048576) : keyOf Try.prog 77 (.agg #[.int .i64 (x : Int), .int .i64 (y : Int)]) = some (kS x y) := kS_some _ _ (wf_nat hx) (wf_nat hy)
theorem kS_inj {x y x' y' : Nat} (hx : x ≤ 1048576) (hy : y ≤ 1048576) (hx' : x' ≤ 1048576) (hy' : y' ≤ 1048576) (h : kS x y = kS x' y') : x = x' ∧ y = y' := by
  have h1 := keyS x y hx hy
  have h2 := keyS x' y' hx' hy'
  rw [← h] at h2
  have := Try.keyed77.inj h1 h2
  simp only [Value.agg.injEq] at this
  simp at this
  omega
theorem kS_key (x y : Nat) : WideAt.IsKeyLit (kS x y) := trivial
theorem Try.zero31 (w : World) : (zeroValue 31).run Try.prog w = .ok (.slice none 0 0) w := by kernel_rfl
theorem Try.infoBm : (Try.prog.info? 48).map (fun i => (i.zero, i.size, i.bytes)) = some (some (.agg #[.int .i64 0, .int .i64 0, .slice none 0 0]), 3, 40) := by kernel_rfl
theorem Try.infoInt : (Try.prog.info? 3).map (fun i => (i.zero, i.size, i.bytes)) = some (some (.int .i64 0), 1, 8) := by kernel_rfl

/-- Numbers as cells. -/
def intCells (l : List Nat) : List Value := l.map fun (x : Nat) => Value.int .i64 (x : Int)
theorem length_intCells (l : List Nat) : (intCells l).length = l.length := by simp [intCells]
theorem intCells_append (a b : List Nat) : intCells (a ++ b) = intCells a ++ intCells b := by simp [intCells]
theorem intCells_get (l : List Nat) {j : Nat} (h : j < l.length) : (intCells l)[j]? = some (.int .i64 ((l.getD j 0 : Nat) : Int)) := by
  unfold intCells
  rw [List.getElem?_map, List.getD_eq_getElem?_getD, List.getElem?_eq_getElem h]; rfl
theorem intCells_one (l : List Nat) : ∀ u ∈ intCells l, u.oneCell' = true := by
  intro u hu
  simp only [intCells, List.mem_map] at hu
  obtain ⟨x, _, rfl⟩ := hu
  rfl

/-- Bitmaps as cells: sizes of A's bitmaps, words in U. -/
def repCells (A : Nat → Bp) (U : Nat → Value) (R : List Nat) : Nat → List Value
  | 0 => []
  | c + 1 => repCells A U R c ++ [.int .i64 (A (R.getD c 0)).x, .int .i64 (A (R.getD c 0)).y, U c]
theorem length_repCells (A : Nat → Bp) (U : Nat → Value) (R : List Nat) : ∀ n, (repCells A U R n).length = n * 3
  | 0 => rfl
  | n + 1 => by unfold repCells; rw [List.length_append, length_repCells A U R n]; simp; omega
theorem repCells_at (A : Nat → Bp) (U : Nat → Value) (R : List Nat) : ∀ (n c : Nat), c < n → (repCells A U R n)[c * 3]? = some (.int .i64 (A (R.getD c 0)).x) ∧ (repCells A U R n)[c * 3 + 1]? = some (.int .i64 (A (R.getD c 0)).y) ∧ (repCells A U R n)[c * 3 + 2]? = some (U c)
  | 0, c, h => absurd h (Nat.not_lt_zero _)
  | n + 1, c, h => by
    have hl := length_repCells A U R n
    unfold repCells
    by_cases e : c = n
    · subst e
      refine ⟨?_, ?_, ?_⟩
      · rw [List.getElem?_append_right (by omega), hl, Nat.sub_self]; rfl
      · rw [List.getElem?_append_right (by omega), hl, show c * 3 + 1 - c * 3 = 1 by omega]; rfl
      · rw [List.getElem?_append_right (by omega), hl, show c * 3 + 2 - c * 3 = 2 by omega]; rfl
    · have := repCells_at A U R n c (by omega)
      rw [List.getElem?_append_left (by omega), List.getElem?_append_left (by omega), List.getElem?_append_left (by omega)]
      exact this
theorem repCells_congr {A A' : Nat → Bp} {U U' : Nat → Value} {R R' : List Nat} : ∀ {n : Nat}, (∀ c, c < n → (A (R.getD c 0)).x = (A' (R'.getD c 0)).x ∧ (A (R.getD c 0)).y = (A' (R'.getD c 0)).y ∧ U c = U' c) → repCells A U R n = repCells A' U' R' n
  | 0, _ => rfl
  | n + 1, h => by
    obtain ⟨h1, h2, h3⟩ := h n (by omega)
    unfold repCells
    rw [repCells_congr (fun c hc => h c (by omega)), h1, h2, h3]

end Go.Proofs.Ytodgdbbhllejkaa
