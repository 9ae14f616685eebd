/- Who decides: a coder or a decoder, behind an interface of one method. -/
import Derived.Test.YtkggdnkmaldmlabK6
import Derived.Test.YtkggdnkmaldmlabKBw
namespace Go.Proofs.Ytkggdnkmaldmlab
open Go.RowKit

/-- One that decides: `fn` is its method, `v` its value. -/
structure Who (fn : Nat) (v : Value) where
  A : Type
  S : Type
  abs : S → A
  At : World → S → Prop
  own : S → Nat → Prop
  lt : ∀ {w : World} {s : S} {k : Nat}, At w s → own s k → k < w.heap.size
  kept : ∀ {w w' : World} {s : S} {T : Nat → Prop}, At w s → Fr T w w' → (∀ k, own s k → ¬ T k) → At w' s
  left : A → Nat
  ask : A → Int → Nat → Nat × A
  ask_lt : ∀ a i b, b < 2 → (ask a i b).1 < 2
  left_ask : ∀ a i b, left a ≤ left (ask a i b).2 + 1
  may : Nat → Prop
  ask_le : ∀ a i b, may b → b ≤ (ask a i b).1
  calls : ∀ (w : World) (s : S) (i : Int) (b : Nat), At w s → 0 < left (abs s) → (-9223372036854775808 ≤ i ∧ i ≤ 9223372036854775807) → b < 2 →
    Calls Try.prog fn #[v, .int .i64 i, .int .i64 b] w fun e w' => e = .returned (.int .i64 ((ask (abs s) i b).1 : Nat)) ∧ ∃ s', At w' s' ∧ abs s' = (ask (abs s) i b).2 ∧ Fr (own s) w w' ∧ (∀ k, own s' k → own s k ∨ w.heap.size ≤ k)

/-- A coder with its place in memory. -/
structure CoS where
  gb : Nat
  cb : Nat
  o : Co

set_option maxRecDepth 100000 in
set_option maxHeartbeats 1000000 in
theorem codes_decide (w : World) (bc gc cc gb cb : Nat) (o : Co) (h : CoAt w bc gc cc gb cb o) (hok : Ook o) (hm : o.made < 16777216) (i : Int) (hi : -9223372036854775808 ≤ i ∧ i ≤ 9223372036854775807) (bit : Nat) (hbit : bit < 2) :
    Calls Try.prog 74 #[.agg #[.pointer (some ⟨bc, 0, none⟩)], .int .i64 i, .int .i64 bit] w fun e w' => e = .returned (.int .i64 bit) ∧ ∃ gb' cb', CoAt w' bc gc cc gb' cb' (putP o i bit) ∧ CStep bc gc gb gb' w w' := by
  have HC : Hid (∀ w', Fr (fun _ => False) w w' → CoAt w' bc gc cc gb cb o) := fun w' f => h.kept f (fun x => x) (fun x => x) (fun x => x)
  have HK : Hid (Ook o ∧ o.made < 16777216 ∧ (-9223372036854775808 ≤ i ∧ i ≤ 9223372036854775807) ∧ bit < 2) := ⟨hok, hm, hi, hbit⟩
  clear h hok hm hi hbit
  go_enter Try.func74, Try.ntmps74
  go_wp2_with fail
  refine (put_any _ bc gc cc gb cb o (HC.out _ ((Fr.refl _ _).alloc _)) HK.out.1 HK.out.2.1 i HK.out.2.2.1 bit HK.out.2.2.2).mono ?_
  rintro e w1 ⟨rfl, gb', cb', hc1, hs1⟩
  have H1 : Hid (CoAt w1 bc gc cc gb' cb' (putP o i bit)) := hc1
  have H2 : Hid (CStep bc gc gb gb' w w1) := by
    have a : Fr (fun k => k = bc ∨ k = gc ∨ k = gb) w (w.alloc (.cells #[.pointer (some ⟨bc, 0, none⟩)] 70)) := (Fr.refl _ _).alloc _
    exact (CStep.of_fr a).trans hs1
  clear hc1 hs1
  go_wp2_with fail
  go_ret
  exact ⟨rfl, gb', cb', H1.out, H2.out⟩

set_option maxRecDepth 100000 in
set_option maxHeartbeats 1000000 in
theorem decodes_decide (w : World) (bd gc cc : Nat) (vb : Value) (B : List Nat) (o : De) (h : DeAt w bd gc cc vb B o) (hok : Eok B o) (hm : o.made < 16777216) (i : Int) (hi : -9223372036854775808 ≤ i ∧ i ≤ 9223372036854775807) (bit : Nat) :
    Calls Try.prog 86 #[.agg #[.pointer (some ⟨bd, 0, none⟩)], .int .i64 i, .int .i64 bit] w fun e w' => e = .returned (.int .i64 (getBit o i : Nat)) ∧ DeAt w' bd gc cc vb B (getP B o i) ∧ DStep bd gc w w' := by
  have HC : Hid (∀ w', Fr (fun _ => False) w w' → DeAt w' bd gc cc vb B o) := fun w' f => h.keptAll f
  have HK : Hid (Eok B o ∧ o.made < 16777216 ∧ (-9223372036854775808 ≤ i ∧ i ≤ 9223372036854775807)) := ⟨hok, hm, hi⟩
  obtain ⟨z, HZ⟩ : ∃ z, Hid (z = getBit o i) := ⟨_, rfl⟩
  rw [← HZ.out]
  clear h hok hm hi
  go_enter Try.func86, Try.ntmps86
  go_wp2_with fail
  refine (get_any _ bd gc cc vb B o (HC.out _ ((Fr.refl _ _).alloc _)) HK.out.1 HK.out.2.1 i HK.out.2.2).mono ?_
  rintro e w1 ⟨rfl, hc1, hs1⟩
  have H1 : Hid (DeAt w1 bd gc cc vb B (getP B o i)) := hc1
  have H2 : Hid (DStep bd gc w w1) := DStep.lift ((Fr.refl _ _).alloc _) hs1
  rw [← HZ.out]
  clear hc1 hs1
  go_wp2_with fail
  go_ret
  exact ⟨rfl, H1.out, H2.out⟩

/-- A coder decides. -/
def whoC (bc gc cc : Nat) : Who 74 (.agg #[.pointer (some ⟨bc, 0, none⟩)]) where
  A := Co
  S := CoS
  abs := CoS.o
  At := fun w s => CoAt w bc gc cc s.gb s.cb s.o ∧ Ook s.o
  own := fun s k => k = bc ∨ k = gc ∨ k = s.gb
  lt := by
    rintro w s k ⟨h, _⟩ (rfl | rfl | rfl)
    · exact h.lt
    · exact h.xlt
    · exact h.blt
  kept := by
    rintro w w' s T ⟨h, hk⟩ f hs
    exact ⟨h.kept f (hs _ (Or.inl rfl)) (hs _ (Or.inr (Or.inl rfl))) (hs _ (Or.inr (Or.inr rfl))), hk⟩
  left := fun o => 16777216 - o.made
  ask := askC
  ask_lt := fun _ _ _ h => h
  left_ask := fun a i b => by show 16777216 - a.made ≤ 16777216 - (a.made + 1) + 1; omega
  may := fun b => b < 2
  ask_le := fun _ _ _ _ => Nat.le_refl _
  calls := by
    rintro w s i b ⟨h, hk⟩ hl hi hb
    have hl' : 0 < 16777216 - s.o.made := hl
    refine (codes_decide w bc gc cc s.gb s.cb s.o h hk (by omega) i hi b hb).mono ?_
    rintro e w' ⟨rfl, gb', cb', hc, hs⟩
    refine ⟨rfl, ⟨gb', cb', putP s.o i b⟩, ⟨hc, putP_ok hk i b (by omega)⟩, rfl, hs.fr, ?_⟩
    rintro k (e | e | e)
    · exact Or.inl (Or.inl e)
    · exact Or.inl (Or.inr (Or.inl e))
    · rcases hs.row with r | r
      · exact Or.inl (Or.inr (Or.inr (e.trans r)))
      · have e' : k = gb' := e
        exact Or.inr (by omega)

/-- A decoder decides. -/
def whoD (bd gc cc : Nat) (vb : Value) (B : List Nat) : Who 86 (.agg #[.pointer (some ⟨bd, 0, none⟩)]) where
  A := De
  S := De
  abs := id
  At := fun w s => DeAt w bd gc cc vb B s ∧ Eok B s
  own := fun _ k => k = bd ∨ k = gc ∨ vb.ownBlock = some k
  lt := by
    rintro w s k ⟨h, _⟩ (rfl | rfl | e)
    · exact h.lt
    · exact h.xlt
    · exact (h.bs.lt _ e).2
  kept := by
    rintro w w' s T ⟨h, hk⟩ f hs
    exact ⟨h.kept f (hs _ (Or.inl rfl)) (hs _ (Or.inr (Or.inl rfl))) (fun k e => hs _ (Or.inr (Or.inr e))), hk⟩
  left := fun o => 16777216 - o.made
  ask := askD B
  ask_lt := fun a i b _ => decBit_lt _ _
  left_ask := fun a i b => by show 16777216 - a.made ≤ 16777216 - (a.made + 1) + 1; omega
  may := fun b => b = 0
  ask_le := fun _ _ _ h => by rw [h]; exact Nat.zero_le _
  calls := by
    rintro w s i b ⟨h, hk⟩ hl hi _
    have hl' : 0 < 16777216 - s.made := hl
    refine (decodes_decide w bd gc cc vb B s h hk (by omega) i hi b).mono ?_
    rintro e w' ⟨rfl, hc, hs⟩
    exact ⟨rfl, getP B s i, ⟨hc, getP_ok hk i (by omega)⟩, rfl, hs.mono (fun _ _ e => by rcases e with e | e; exact Or.inl e; exact Or.inr (Or.inl e)), fun k e => Or.inl e⟩

end Go.Proofs.Ytkggdnkmaldmlab
