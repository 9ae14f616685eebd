/- Who decides: a coder or a decoder, behind a closure. -/
import Derived.Test.YtmfpoabhmpljgaaK15
import Derived.Test.YtmfpoabhmpljgaaK17
import Derived.Test.YtmfpoabhmpljgaaK19
namespace Go.Proofs.Ytmfpoabhmpljgaa
open Go.RowKit

theorem no3 {a b c : Prop} (x : ¬ a) (y : ¬ b) (z : ¬ c) : ¬ (a ∨ b ∨ c) := fun h => h.elim x (fun h => h.elim y z)

theorem refuse_ok (w : World) : Calls Try.prog 54 #[.int .i64 0] w fun e w' => e = .returned (.tuple #[]) ∧ w' = w := by
  go_enter Try.func54, Try.ntmps54
  go_wp2_with fail
  go_end0
  exact ⟨rfl, rfl⟩

/-- One that decides: `fn` is its function; the variables `pc` and `pb` are captured. -/
structure Who (fn pc pb base : Nat) where
  A : Type
  S : Type
  abs : S → A
  At : World → S → Prop
  own : S → Nat → Prop
  lt : ∀ {w : World} {s : S} {k : Nat}, At w s → own s k → k < w.heap.size
  plt : ∀ {w : World} {s : S}, At w s → pc < w.heap.size ∧ pb < w.heap.size
  pno : ∀ {w : World} {s : S}, At w s → ¬ own s pc ∧ ¬ own s pb
  kept : ∀ {w w' : World} {s : S} {T : Nat → Prop}, At w s → Fr T w w' → (∀ k, own s k → ¬ T k) → ¬ T pc → ¬ T pb → At w' s
  left : A → Nat
  ask : A → Int → Nat → Nat × A
  ask_lt : ∀ a i b, b < 2 → (ask a i b).1 < 2
  left_ask : ∀ a i b, left a ≤ left (ask a i b).2 + 1
  may : Nat → Prop
  ask_le : ∀ a i b, may b → b ≤ (ask a i b).1
  calls : ∀ (w : World) (s : S) (i b : Nat), At w s → 0 < left (abs s) → i ≤ 1000000 → b < 2 →
    Calls Try.prog fn #[.int .i64 i, .int .i64 b, .pointer (some ⟨pc, 0, none⟩), .pointer (some ⟨pb, 0, none⟩)] w fun e w' => e = .returned (.int .i64 ((ask (abs s) ((base + i : Nat) : Int) b).1 : Nat)) ∧ ∃ s', At w' s' ∧ abs s' = (ask (abs s) ((base + i : Nat) : Int) b).2 ∧ Fr (own s) w w' ∧ (∀ k, own s' k → own s k ∨ w.heap.size ≤ k)

/-- A coder with its place in memory. -/
structure CoS where
  gb : Nat
  cb : Nat
  o : Co

set_option maxRecDepth 100000 in
set_option maxHeartbeats 1000000 in
theorem codes_decide (w : World) (pc pb base bc gc cc gb cb : Nat) (o : Co) (hp : w.heap[pc]? = some (.cells #[.pointer (some ⟨bc, 0, none⟩)] 53 (0, 0))) (hq : w.heap[pb]? = some (.cells #[.int .i64 base] 3 (0, 0))) (h : CoAt w bc gc cc gb cb o) (hok : Ook o) (hm : o.made < 16777216) (i : Nat) (hi : i ≤ 1000000) (hb : base ≤ 1000000) (bit : Nat) (hbit : bit < 2) :
    Calls Try.prog 53 #[.int .i64 i, .int .i64 bit, .pointer (some ⟨pc, 0, none⟩), .pointer (some ⟨pb, 0, none⟩)] w fun e w' => e = .returned (.int .i64 bit) ∧ ∃ gb' cb', CoAt w' bc gc cc gb' cb' (putP o ((base + i : Nat) : Int) bit) ∧ CStep bc gc gb gb' w w' := by
  have HP : Hid (∀ w', Fr (fun _ => False) w w' → Calls Try.prog 55 #[.pointer (some ⟨bc, 0, none⟩), .int .i64 ((base + i : Nat) : Int), .int .i64 bit] w' fun e w'' => e = .returned (.int .i64 0) ∧ ∃ gb' cb', CoAt w'' bc gc cc gb' cb' (putP o ((base + i : Nat) : Int) bit) ∧ CStep bc gc gb gb' w' w'') := fun w' f => put_any w' bc gc cc gb cb o (h.kept f (fun x => x) (fun x => x) (fun x => x)) hok hm _ (by omega) bit hbit
  have k0 := cell_of_one hp
  have k1 := cell_of_one hq
  have g1 : IntKind.i64.wrap ((base : Int) + (i : Int)) = ((base + i : Nat) : Int) := by rw [IntKind.wrap_i64]; omega
  clear h hok hm hi hbit hp hq hb
  generalize ((base + i : Nat) : Int) = I at *
  go_enter Try.func53, Try.ntmps53
  go_wp2_with fail
  refine (HP.out _ (Fr.refl _ _)).mono ?_
  rintro e w1 ⟨rfl, gb', cb', hc1, hs1⟩
  have H1 : Hid (CoAt w1 bc gc cc gb' cb' (putP o I bit) ∧ CStep bc gc gb gb' w w1) := ⟨hc1, hs1⟩
  clear hc1 hs1 k0 k1
  go_wp2_with fail
  refine (refuse_ok _).mono ?_
  rintro e w2 ⟨rfl, rfl⟩
  go_wp2_with fail
  go_ret
  exact ⟨rfl, gb', cb', H1.out.1, H1.out.2⟩

set_option maxRecDepth 100000 in
set_option maxHeartbeats 1000000 in
theorem decodes_decide (w : World) (pc pb base bd gc cc : Nat) (vb : Value) (B : List Nat) (o : De) (hp : w.heap[pc]? = some (.cells #[.pointer (some ⟨bd, 0, none⟩)] 61 (0, 0))) (hq : w.heap[pb]? = some (.cells #[.int .i64 base] 3 (0, 0))) (h : DeAt w bd gc cc vb B o) (hok : Eok B o) (hm : o.made < 16777216) (i : Nat) (hi : i ≤ 1000000) (hb : base ≤ 1000000) (bit : Nat) :
    Calls Try.prog 66 #[.int .i64 i, .int .i64 bit, .pointer (some ⟨pc, 0, none⟩), .pointer (some ⟨pb, 0, none⟩)] w fun e w' => e = .returned (.int .i64 (getBit o ((base + i : Nat) : Int) : Nat)) ∧ DeAt w' bd gc cc vb B (getP B o ((base + i : Nat) : Int)) ∧ DStep bd gc w w' := by
  have HP : Hid (∀ w', Fr (fun _ => False) w w' → Calls Try.prog 67 #[.pointer (some ⟨bd, 0, none⟩), .int .i64 ((base + i : Nat) : Int)] w' fun e w'' => e = .returned (.tuple #[.int .i64 (getBit o ((base + i : Nat) : Int) : Nat), .int .i64 0]) ∧ DeAt w'' bd gc cc vb B (getP B o ((base + i : Nat) : Int)) ∧ DStep bd gc w' w'') := fun w' f => get_any w' bd gc cc vb B o (h.keptAll f) hok hm _ (by omega)
  have k0 := cell_of_one hp
  have k1 := cell_of_one hq
  have g1 : IntKind.i64.wrap ((base : Int) + (i : Int)) = ((base + i : Nat) : Int) := by rw [IntKind.wrap_i64]; omega
  clear h hok hm hi hp hq hb
  generalize ((base + i : Nat) : Int) = I at *
  obtain ⟨z, HZ⟩ : ∃ z, Hid (z = getBit o I) := ⟨_, rfl⟩
  rw [← HZ.out] at HP ⊢
  go_enter Try.func66, Try.ntmps66
  go_wp2_with fail
  refine (HP.out _ (Fr.refl _ _)).mono ?_
  rintro e w1 ⟨rfl, hc1, hs1⟩
  have H1 : Hid (DeAt w1 bd gc cc vb B (getP B o I) ∧ DStep bd gc w w1) := ⟨hc1, hs1⟩
  clear hc1 hs1 k0 k1
  go_wp2_with fail
  refine (refuse_ok _).mono ?_
  rintro e w2 ⟨rfl, rfl⟩
  go_wp2_with fail
  go_ret
  exact ⟨rfl, H1.out.1, H1.out.2⟩

/-- A coder decides. -/
def whoC (bc gc cc pc pb base : Nat) (hbase : base ≤ 1000000) : Who 53 pc pb base where
  A := Co
  S := CoS
  abs := CoS.o
  At := fun w s => CoAt w bc gc cc s.gb s.cb s.o ∧ Ook s.o ∧ w.heap[pc]? = some (.cells #[.pointer (some ⟨bc, 0, none⟩)] 53 (0, 0)) ∧ w.heap[pb]? = some (.cells #[.int .i64 base] 3 (0, 0)) ∧ (pc ≠ bc ∧ pc ≠ gc ∧ pc ≠ s.gb) ∧ (pb ≠ bc ∧ pb ≠ gc ∧ pb ≠ s.gb)
  own := fun s k => k = bc ∨ k = gc ∨ k = s.gb
  lt := by
    rintro w s k ⟨h, _⟩ (rfl | rfl | rfl)
    · exact h.lt
    · exact h.xlt
    · exact h.blt
  plt := by
    rintro w s ⟨_, _, a, b, _⟩
    exact ⟨lt_of_block a, lt_of_block b⟩
  pno := by
    rintro w s ⟨_, _, _, _, ⟨a, b, c⟩, d, e, f⟩
    exact ⟨no3 a b c, no3 d e f⟩
  kept := by
    rintro w w' s T ⟨h, hk, a, b, r⟩ f hs n1 n2
    exact ⟨h.kept f (hs _ (Or.inl rfl)) (hs _ (Or.inr (Or.inl rfl))) (hs _ (Or.inr (Or.inr rfl))), hk, by rw [f.block _ (lt_of_block a) n1]; exact a, by rw [f.block _ (lt_of_block b) n2]; exact b, r⟩
  left := fun o => 16777216 - o.made
  ask := askC
  ask_lt := fun _ _ _ h => h
  left_ask := fun a i b => by show 16777216 - a.made ≤ 16777216 - (a.made + 1) + 1; omega
  may := fun b => b < 2
  ask_le := fun _ _ _ _ => Nat.le_refl _
  calls := by
    rintro w s i b ⟨h, hk, ha, hb, ⟨a1, a2, a3⟩, b1, b2, b3⟩ hl hi hbit
    have hl' : 0 < 16777216 - s.o.made := hl
    refine (codes_decide w pc pb base bc gc cc s.gb s.cb s.o ha hb h hk (by omega) i hi hbase b hbit).mono ?_
    rintro e w' ⟨rfl, gb', cb', hc, hs⟩
    have hn : gb' = s.gb ∨ w.heap.size ≤ gb' := hs.row
    have l1 := lt_of_block ha
    have l2 := lt_of_block hb
    refine ⟨rfl, ⟨gb', cb', putP s.o ((base + i : Nat) : Int) b⟩, ⟨hc, putP_ok hk _ b (by omega), ?_, ?_, ⟨a1, a2, ?_⟩, b1, b2, ?_⟩, rfl, hs.fr, ?_⟩
    · rw [hs.fr.block _ l1 (no3 a1 a2 a3)]; exact ha
    · rw [hs.fr.block _ l2 (no3 b1 b2 b3)]; exact hb
    · show pc ≠ gb'
      omega
    · show pb ≠ gb'
      omega
    · rintro k (e | e | e)
      · exact Or.inl (Or.inl e)
      · exact Or.inl (Or.inr (Or.inl e))
      · have e' : k = gb' := e
        rcases hn with r | r
        · exact Or.inl (Or.inr (Or.inr (e'.trans r)))
        · exact Or.inr (by omega)

/-- A decoder decides. -/
def whoD (bd gc cc : Nat) (vb : Value) (B : List Nat) (pc pb base : Nat) (hbase : base ≤ 1000000) : Who 66 pc pb base where
  A := De
  S := De
  abs := id
  At := fun w s => DeAt w bd gc cc vb B s ∧ Eok B s ∧ w.heap[pc]? = some (.cells #[.pointer (some ⟨bd, 0, none⟩)] 61 (0, 0)) ∧ w.heap[pb]? = some (.cells #[.int .i64 base] 3 (0, 0)) ∧ (pc ≠ bd ∧ pc ≠ gc ∧ vb.ownBlock ≠ some pc) ∧ (pb ≠ bd ∧ pb ≠ gc ∧ vb.ownBlock ≠ some pb)
  own := fun _ k => k = bd ∨ k = gc ∨ vb.ownBlock = some k
  lt := by
    rintro w s k ⟨h, _⟩ (rfl | rfl | e)
    · exact h.lt
    · exact h.xlt
    · exact (h.bs.lt _ e).2
  plt := by
    rintro w s ⟨_, _, a, b, _⟩
    exact ⟨lt_of_block a, lt_of_block b⟩
  pno := by
    rintro w s ⟨_, _, _, _, ⟨a, b, c⟩, d, e, f⟩
    exact ⟨no3 a b c, no3 d e f⟩
  kept := by
    rintro w w' s T ⟨h, hk, a, b, r⟩ f hs n1 n2
    exact ⟨h.kept f (hs _ (Or.inl rfl)) (hs _ (Or.inr (Or.inl rfl))) (fun k e => hs _ (Or.inr (Or.inr e))), hk, by rw [f.block _ (lt_of_block a) n1]; exact a, by rw [f.block _ (lt_of_block b) n2]; exact b, r⟩
  left := fun o => 16777216 - o.made
  ask := askD B
  ask_lt := fun a i b _ => decBit_lt _ _
  left_ask := fun a i b => by show 16777216 - a.made ≤ 16777216 - (a.made + 1) + 1; omega
  may := fun b => b = 0
  ask_le := fun _ _ _ h => by rw [h]; exact Nat.zero_le _
  calls := by
    rintro w s i b ⟨h, hk, ha, hb, ⟨a1, a2, a3⟩, b1, b2, b3⟩ hl hi _
    have hl' : 0 < 16777216 - s.made := hl
    refine (decodes_decide w pc pb base bd gc cc vb B s ha hb h hk (by omega) i hi hbase b).mono ?_
    rintro e w' ⟨rfl, hc, hs⟩
    have hs' : Fr (fun k => k = bd ∨ k = gc ∨ vb.ownBlock = some k) w w' := hs.mono (fun _ _ e => by rcases e with e | e; exact Or.inl e; exact Or.inr (Or.inl e))
    have l1 := lt_of_block ha
    have l2 := lt_of_block hb
    refine ⟨rfl, getP B s ((base + i : Nat) : Int), ⟨hc, getP_ok hk _ (by omega), ?_, ?_, ⟨a1, a2, a3⟩, b1, b2, b3⟩, rfl, hs', fun k e => Or.inl e⟩
    · rw [hs'.block _ l1 (no3 a1 a2 a3)]; exact ha
    · rw [hs'.block _ l2 (no3 b1 b2 b3)]; exact hb

end Go.Proofs.Ytmfpoabhmpljgaa

/- Package refine: what holds behind so many pixels of a row, and rows. -/
namespace Go.Proofs.Ytmfpoabhmpljgaa
open Go.RowKit

theorem RowAt.cur {w : World} {g cap W H : Nat} {P : Pxs} (h : RowAt w g cap W H P) : ∃ cur : Array Value, w.heap[g]? = some (.cells cur 80 (0, 0)) ∧ H * stride W ≤ cap ∧ cap ≤ maxLen ∧ cur.size = cap ∧ cur.toList.take (H * stride W) = wordCells (render W H P) := by
  rcases h.2 with ⟨e, _⟩ | ⟨g', cap', cur, e, _, hg, hc, hm, hs, ht⟩
  · cases e
  · simp only [Value.slice.injEq, Option.some.injEq, Addr.mk.injEq, true_and, and_true] at e
    obtain ⟨rfl, rfl⟩ := e
    exact ⟨cur, hg, hc, hm, by simpa using hs, by simpa using ht⟩
theorem wrap_eq (a : Int) : IntKind.i64.wrap a = wrap64 a := by
  rw [IntKind.wrap_i64]; unfold wrap64; omega
/-- A pixel is written by its word. -/
theorem RowAt.pixel {w : World} {g cap W H : Nat} {P : Pxs} (h : RowAt w g cap W H P) {x y v : Nat} {c : Bool} (hx : x < W) (hy : y < H) (hv : v < 18446744073709551616) (hb : ∀ k, k < 64 → v.testBit (63 - k) = (if k = x % 64 then c else (wd W P y (x / 64)).testBit (63 - k))) : RowAt (w.setCell ⟨g, y * stride W + x / 64, none⟩ (.int .u64 (v : Int))) g cap W H (putPix P x y c) := by
  have hj : x / 64 < stride W := by unfold stride; omega
  refine h.put hy hj hv (fun k hk => ?_) (fun a b ha hb' hn => ?_)
  · rw [hb k hk]
    unfold putPix
    by_cases e : k = x % 64
    · rw [if_pos e, if_pos (by omega), decide_eq_true (by omega), Bool.true_and]
    · rw [if_neg e, if_neg (by omega)]
      unfold wd
      rw [bit_wordOf _ _ hk]
  · unfold putPix
    rw [if_neg (by rintro ⟨rfl, rfl⟩; exact hn ⟨rfl, rfl⟩)]
/-- A word with a bit more, or with none. -/
theorem word_none (W : Nat) (P : Pxs) (x y : Nat) (hx : x < W) (h : P x y = false) : ∀ k, k < 64 → (wd W P y (x / 64)).testBit (63 - k) = (if k = x % 64 then false else (wd W P y (x / 64)).testBit (63 - k)) := by
  intro k hk
  by_cases e : k = x % 64
  · rw [if_pos e, e, pix_wd P hx, h]
  · rw [if_neg e]
theorem word_more (X x : Nat) : ∀ k, k < 64 → (X ||| 2 ^ (63 - x % 64)).testBit (63 - k) = (if k = x % 64 then true else X.testBit (63 - k)) := by
  intro k hk
  rw [Nat.testBit_or, Nat.testBit_two_pow]
  by_cases e : k = x % 64
  · rw [if_pos e, decide_eq_true (by omega), Bool.or_true]
  · rw [if_neg e, decide_eq_false (by omega), Bool.or_false]
theorem bor_u64 (a b : Nat) (ha : a < 18446744073709551616) (hb : b < 18446744073709551616) : bits .or .u64 (a : Int) (b : Int) = ((a ||| b : Nat) : Int) := by
  have hx : a ||| b < 2 ^ 64 := Nat.or_lt_two_pow ha hb
  show IntKind.u64.wrap ((BitVec.ofInt 64 (a : Int) ||| BitVec.ofInt 64 (b : Int)).toNat : Int) = _
  rw [BitVec.toNat_or, BitVec.ofInt_natCast, BitVec.ofInt_natCast, BitVec.toNat_ofNat, BitVec.toNat_ofNat, Nat.mod_eq_of_lt (a := a) (by omega), Nat.mod_eq_of_lt (a := b) (by omega), IntKind.wrap_u64]
  omega

theorem RowAt.bm {w : World} {g cap W H : Nat} {P : Pxs} (h : RowAt w g cap W H P) (h1 : 1 ≤ W) (h2 : 1 ≤ H) (h3 : W * H ≤ 1048576) : Bm w (.slice (some ⟨g, 0, none⟩) (H * stride W) cap) W H P := by
  obtain ⟨f1, f2, f3⟩ := size_facts h1 h2 h3
  refine ⟨h.seen f3, ?_, h1, h2, h3⟩
  obtain ⟨_, _, a, b, _, _⟩ := h.cur
  intro ao n c e
  simp only [Value.slice.injEq] at e
  obtain ⟨_, rfl, rfl⟩ := e
  exact ⟨a, b⟩

theorem ToldCl.less {w : World} {lo lo' ba bo bt bm bl W H : Nat} {v : Value} {WR HR : Nat} {vR : Value} {dx dy y : Int} (h : ToldCl w lo ba bo bt bm bl W H v WR HR vR dx dy y) (hl : lo' ≤ lo) : ToldCl w lo' ba bo bt bm bl W H v WR HR vR dx dy y := by
  obtain ⟨⟨fa, fo, ft, fm, fl, a, b, c, d, e, r1, r2, r3, r4, r5⟩, l1, l2, l3, l4, l5⟩ := h
  exact ⟨⟨fa, fo, ft, fm, fl, a, b, c, d, e, r1.less hl, r2.less hl, r3.less hl, r4.less hl, r5.less hl⟩, by omega, by omega, by omega, by omega, by omega⟩

/-- Where the pixels of a row stand behind n of them. -/
structure PxAt {fn pc pb base : Nat} (D : Who fn pc pb base) (cx : Cxf) (W H y g cap : Nat) (P : Pxs) (s : D.S) (w0 : World) (n : Nat) (sN : D.S) (w : World) : Prop where
  at_ : D.At w sN
  abs : D.abs sN = (pixW D.ask cx base y n (D.abs s, P)).1
  row : RowAt w g cap W H (pixW D.ask cx base y n (D.abs s, P)).2
  fr : Fr (fun k => D.own s k ∨ k = g) w0 w
  own : ∀ k, D.own sN k → D.own s k ∨ w0.heap.size ≤ k
  left : W ≤ D.left (D.abs sN) + n

theorem PxAt.frT {fn pc pb base : Nat} {D : Who fn pc pb base} {cx : Cxf} {W H y g cap : Nat} {P : Pxs} {s : D.S} {w0 : World} {n : Nat} {sN : D.S} {wr w' : World} (h : PxAt D cx W H y g cap P s w0 n sN wr) (f : Fr (fun k => D.own sN k ∨ k = g) wr w') : Fr (fun k => D.own s k ∨ k = g) w0 w' :=
  h.fr.trans f (fun i hi e => by
    rcases e with e | e
    · rcases h.own i e with a | a
      · exact Or.inl a
      · omega
    · exact Or.inr e)

theorem PxAt.next {fn pc pb base : Nat} {D : Who fn pc pb base} {cx : Cxf} {W H y g cap : Nat} {P : Pxs} {s : D.S} {w0 : World} {n : Nat} {sN : D.S} {wr : World} (h : PxAt D cx W H y g cap P s w0 n sN wr)
    (hg : ¬ D.own s g) (hl1 : g < w0.heap.size) (hpc : pc ≠ g) (hpb : pb ≠ g) {z : Nat} {an : D.A} (hr : (z, an) = D.ask (pixW D.ask cx base y n (D.abs s, P)).1 ((base + cx (pixW D.ask cx base y n (D.abs s, P)).2 n y : Nat) : Int) ((pixW D.ask cx base y n (D.abs s, P)).2 n y).toNat)
    {s5 : D.S} {w5 : World} (h5 : D.At w5 s5) (ha5 : D.abs s5 = an) (hf5 : Fr (fun k => D.own sN k) wr w5) (ho5 : ∀ k, D.own s5 k → D.own sN k ∨ wr.heap.size ≤ k)
    {w6 : World} (hf6 : Fr (fun k => k = g) w5 w6) (hr6 : RowAt w6 g cap W H (putPix (pixW D.ask cx base y n (D.abs s, P)).2 n y (decide (z = 1)))) : PxAt D cx W H y g cap P s w0 (n + 1) s5 w6 := by
  have e : pixW D.ask cx base y (n + 1) (D.abs s, P) = (an, putPix (pixW D.ask cx base y n (D.abs s, P)).2 n y (decide (z = 1))) := by
    rw [pixW, ← hr]
  have hsz := h.fr.size
  have hog : ∀ k, D.own s5 k → ¬ k = g := fun k hk => by
    rcases ho5 k hk with a | a
    · rcases h.own k a with b | b
      · exact fun e => hg (e ▸ b)
      · omega
    · omega
  refine ⟨D.kept h5 hf6 hog hpc hpb, by rw [e]; exact ha5, by rw [e]; exact hr6, (h.frT (hf5.mono (fun _ _ x => Or.inl x))).trans hf6 (fun _ _ x => Or.inr x), fun k hk => ?_, ?_⟩
  · rcases ho5 k hk with a | a
    · exact h.own k a
    · exact Or.inr (by omega)
  · have h1 := h.left
    have h2 := D.left_ask (D.abs sN) ((base + cx (pixW D.ask cx base y n (D.abs s, P)).2 n y : Nat) : Int) ((pixW D.ask cx base y n (D.abs s, P)).2 n y).toNat
    rw [h.abs, ← hr] at h2
    rw [h.abs] at h1
    rw [ha5]
    simp only [] at h2
    omega

/-- Where the rows stand behind n of them. -/
structure ThAt {fn pc pb base : Nat} (D : Who fn pc pb base) (cx : Cxf) (W H g cap : Nat) (P : Pxs) (s : D.S) (w0 : World) (n : Nat) (sN : D.S) (w : World) : Prop where
  at_ : D.At w sN
  abs : D.abs sN = (thrW D.ask cx base W n (D.abs s, P)).1
  row : RowAt w g cap W H (thrW D.ask cx base W n (D.abs s, P)).2
  fr : Fr (fun k => D.own s k ∨ k = g) w0 w
  own : ∀ k, D.own sN k → D.own s k ∨ w0.heap.size ≤ k
  left : (H - n) * W ≤ D.left (D.abs sN)

theorem ThAt.frT {fn pc pb base : Nat} {D : Who fn pc pb base} {cx : Cxf} {W H g cap : Nat} {P : Pxs} {s : D.S} {w0 : World} {n : Nat} {sN : D.S} {wr w' : World} (h : ThAt D cx W H g cap P s w0 n sN wr) (f : Fr (fun k => D.own sN k ∨ k = g) wr w') : Fr (fun k => D.own s k ∨ k = g) w0 w' :=
  h.fr.trans f (fun i hi e => by
    rcases e with e | e
    · rcases h.own i e with a | a
      · exact Or.inl a
      · omega
    · exact Or.inr e)
theorem pixW_left {fn pc pb base : Nat} (D : Who fn pc pb base) (cx : Cxf) (y : Nat) (s : D.A × Pxs) : ∀ n, D.left s.1 ≤ D.left (pixW D.ask cx base y n s).1 + n
  | 0 => Nat.le_refl _
  | n + 1 => by
    have h1 := pixW_left D cx y s n
    have h2 := D.left_ask (pixW D.ask cx base y n s).1 ((base + cx (pixW D.ask cx base y n s).2 n y : Nat) : Int) ((pixW D.ask cx base y n s).2 n y).toNat
    rw [pixW]
    show _ ≤ D.left (D.ask _ _ _).2 + (n + 1)
    omega
theorem ThAt.next {fn pc pb base : Nat} {D : Who fn pc pb base} {cx : Cxf} {W H g cap : Nat} {P : Pxs} {s : D.S} {w0 : World} {n : Nat} {sN : D.S} {wr : World} (h : ThAt D cx W H g cap P s w0 n sN wr) (hn : n < H)
    {w6 : World} (hf6 : Fr (fun _ => False) wr w6) {s1 : D.S} {w1 : World} (h5 : PxAt D cx W H n g cap (thrW D.ask cx base W n (D.abs s, P)).2 sN w6 W s1 w1) : ThAt D cx W H g cap P s w0 (n + 1) s1 w1 := by
  have e0 : (D.abs sN, (thrW D.ask cx base W n (D.abs s, P)).2) = thrW D.ask cx base W n (D.abs s, P) := by rw [h.abs]
  have ha := h5.abs
  have hr := h5.row
  rw [e0] at ha hr
  have e : thrW D.ask cx base W (n + 1) (D.abs s, P) = pixW D.ask cx base n W (thrW D.ask cx base W n (D.abs s, P)) := rfl
  refine ⟨h5.at_, ha, hr, h.frT ((hf6.mono (fun _ _ x => x.elim)).trans h5.fr (fun _ _ x => x)), fun k hk => ?_, ?_⟩
  · have h7 := hf6.size
    have h8 := h.fr.size
    rcases h5.own k hk with a | a
    · exact h.own k a
    · exact Or.inr (by omega)
  · have h6 := pixW_left D cx n (thrW D.ask cx base W n (D.abs s, P)) W
    have h7 := h.left
    rw [← h.abs] at h6
    rw [ha]
    have : (H - n) * W = (H - (n + 1)) * W + W := by rw [show H - n = (H - (n + 1)) + 1 by omega, Nat.add_mul, Nat.one_mul]
    omega

end Go.Proofs.Ytmfpoabhmpljgaa
