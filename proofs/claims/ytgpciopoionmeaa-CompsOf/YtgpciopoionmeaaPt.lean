/- 'partsOf': the lines of each root, in a map. -/
import Derived.Maps.Own
import Derived.Maps.OwnOps
import Derived.Maps.Views
import Derived.Maps.OwnSet
import Derived.Carry
import Derived.Test.YtgpciopoionmeaaLi
namespace Go.Proofs.Ytgpciopoionmeaa
open Go.RowKit Go.Maps

/-- An element of the map, as it is. -/
def heldR : Value → Option (DataW Value × List MemPlace) := fun v => some (.held v, [])
def kI (r : Nat) : Lit := .int .i64 (r : Int)
theorem kI_inj {r r' : Nat} (h : kI r = kI r') : r = r' := by
  unfold kI at h
  simp at h
  omega
theorem kI_key (r : Nat) : WideAt.IsKeyLit (kI r) := trivial
theorem keyI (r : Nat) (h : r ≤ 1048576) : keyOf Try.prog 3 (.int .i64 (r : Int)) = some (kI r) := by
  have hw : (Lit.int .i64 (r : Int)).wf = true := by
    show (decide ((-9223372036854775808 : Int) ≤ r) && decide ((r : Int) ≤ 9223372036854775807)) = true
    rw [decide_eq_true (by omega), decide_eq_true (by omega)]; rfl
  simp [keyOf, mapKey, Try.underlying3, hw, kI]
theorem Try.zero66 (w : World) : (zeroValue 66).run Try.prog w = .ok (.slice none 0 0) w := by kernel_rfl
theorem Try.keyed : Keyed Try.prog 3 := int_keyed Try.underlying3

/-- 'm[k]' at the operation: what was stored there. -/
theorem wpList_lookup_held {P : Program} (w : World) {ops : Array Oper} {rest : List Oper} {o : Oper} {a : Act} {Q : Exit → Act → World → Prop}
    (hg : o.guard = none) (m x : Operand) (t : TypeId) (hop : o.op = Op.lookup t m x false)
    (k e : TypeId) (K : Keyed P k) (ht : P.underlying t = some (.map k e)) (z : Value) (hz : (zeroValue e).run P w = .ok z w) (b n : Nat) (D : DataW Value)
    (hm : a.eval m = .map (some b)) (hown : w.ownsMap P k heldR b n D) (key : Value) (kl : Lit) (hx : a.eval x = key) (hkey : keyOf P k key = some kl) (v : Value) (hv : D.atKey kl (.held z) = .held v)
    (hK : wpList P ops Q rest (a.put o.dst v) w) :
    wpList P ops Q (o :: rest) a w := by
  refine wpList_plain hg fun K' hK' => ?_
  obtain ⟨v', ps, hrun, hR⟩ := hown.lookup K ht hz (zd := .held z) (zp := []) rfl hkey
  rw [hv] at hR
  simp only [heldR, Option.some.injEq, Prod.mk.injEq, DataW.held.injEq] at hR
  obtain ⟨rfl, _⟩ := hR
  unfold Oper.wp
  simp [execOp, hop, hm, hx, hrun, Result.andThen]
  exact hK' _ _ hK

def updV (V : Nat → Value) (r : Nat) (v : Value) : Nat → Value := fun k => if k = r then v else V k
/-- The map in memory, behind i lines. -/
structure Parts (w : World) (base b n : Nat) (ls : Nat → Line) (ρ : Nat → Nat) (i : Nat) (D : DataW Value) (V : Nat → Value) : Prop where
  own : w.ownsMap Try.prog 3 heldR b n D
  keys : ∀ l, has D l = true ↔ ∃ k, k < i ∧ l = kI (ρ k)
  val : ∀ r, D.atKey (kI r) (.held (.slice none 0 0)) = .held (V r)
  row : ∀ r, w.ownsRow base 102 3 (V r) (partTo ls ρ i r).length (lineCells (partTo ls ρ i r))
  sep : ∀ r r' g, r ≠ r' → (V r).ownBlock = some g → (V r').ownBlock ≠ some g

theorem row_not_map {w : World} {base e s n b cl : Nat} {v : Value} {xs : List Value} {es : Array MapEntry} (h : w.ownsRow base e s v n xs) (hb : w.heap[b]? = some (.map es cl)) : v.ownBlock ≠ some b := by
  intro hv
  rcases h.2 with ⟨rfl, _⟩ | ⟨g1, c1, cur, rfl, _, hg1, _⟩
  · simp [Value.ownBlock] at hv
  · simp [Value.ownBlock] at hv
    subst hv
    rw [hb] at hg1
    simp at hg1
theorem Parts.off {w : World} {base b n i : Nat} {ls : Nat → Line} {ρ : Nat → Nat} {D : DataW Value} {V : Nat → Value} (h : Parts w base b n ls ρ i D V) (r : Nat) : (V r).ownBlock ≠ some b := by
  obtain ⟨es, cl, hb, _⟩ := h.own
  exact row_not_map (h.row r) hb
theorem Parts.kept {S : Nat → Prop} {w w' : World} {base b n i : Nat} {ls : Nat → Line} {ρ : Nat → Nat} {D : DataW Value} {V : Nat → Value} (h : Parts w base b n ls ρ i D V) (f : Fr S w w') (hb : ¬ S b) (hv : ∀ r k, (V r).ownBlock = some k → ¬ S k) : Parts w' base b n ls ρ i D V := by
  refine ⟨?_, h.keys, h.val, fun r => row_kept (h.row r) f (hv r), h.sep⟩
  have hlt := h.own.lt
  obtain ⟨es, cl, hbk, F, hs, hD⟩ := h.own
  exact ⟨es, cl, (f.block b hlt hb).trans hbk, F, hs, hD⟩
theorem partTo_len (ls : Nat → Line) (ρ : Nat → Nat) (r : Nat) : ∀ i, (partTo ls ρ i r).length ≤ i
  | 0 => Nat.le_refl _
  | i + 1 => by
    have := partTo_len ls ρ r i
    unfold partTo
    split
    · simp; omega
    · omega
theorem parts_zero (w : World) (base : Nat) (ls : Nat → Line) (ρ : Nat → Nat) : Parts (w.alloc (.map #[] 0)) base w.heap.size 0 ls ρ 0 (.map []) (fun _ => .slice none 0 0) :=
  ⟨World.ownsMap_made w _ _ _, fun l => by simp [has], fun r => rfl, fun r => World.ownsRow_nil _ _ _ _, fun r r' g _ h => by simp [Value.ownBlock] at h⟩
theorem Parts.step {w1 w2 w3 w4 : World} {base b n i r g' cap' : Nat} {ls : Nat → Line} {ρ : Nat → Nat} {D : DataW Value} {V : Nat → Value} (h : Parts w1 base b n ls ρ i D V) (hr : ρ i = r) (hb1 : base ≤ w1.heap.size) (f12 : Fr (fun _ => False) w1 w2)
    (ho3 : w3.ownsRow 0 102 3 (.slice (some ⟨g', 0, none⟩) ((partTo ls ρ i r).length + 1) cap') ((partTo ls ρ i r).length + 1) (lineCells (partTo ls ρ i r) ++ lineCells [ls i])) (h23 : w2.grownBy w3 (V r).ownBlock) (hloc : (V r).ownBlock = some g' ∨ w2.heap.size ≤ g')
    (ho4 : w4.ownsMap Try.prog 3 heldR b (n + 1) (D.put (kI r) (.held (.slice (some ⟨g', 0, none⟩) ((partTo ls ρ i r).length + 1) cap')))) (h34 : w3.grownBy w4 (some b)) :
    Parts w4 base b (n + 1) ls ρ (i + 1) (D.put (kI r) (.held (.slice (some ⟨g', 0, none⟩) ((partTo ls ρ i r).length + 1) cap'))) (updV V r (.slice (some ⟨g', 0, none⟩) ((partTo ls ρ i r).length + 1) cap')) := by
  have hIM := h.own.isMap
  have hpart : ∀ k, partTo ls ρ (i + 1) k = if k = r then partTo ls ρ i r ++ [ls i] else partTo ls ρ i k := fun k => by
    show (if ρ i = k then _ else _) = _
    by_cases e : k = r
    · subst e; rw [if_pos hr, if_pos rfl]
    · rw [if_neg (fun e' => e (e'.symm.trans hr)), if_neg e]
  have hsz := f12.size
  have hnb : some g' ≠ some b := by
    obtain ⟨es, cl, hb, _⟩ := h.own
    have hblt := h.own.lt
    intro e
    cases e
    have hbv := h.off r
    rcases hloc with e | e
    · exact hbv e
    · omega
  have hother : ∀ k, k ≠ r → (V k).ownBlock ≠ some g' := fun k hk e => by
    rcases hloc with e' | e'
    · exact h.sep r k g' (fun e => hk e.symm) e' e
    · have := ((h.row k).lt g' e).2; omega
  refine ⟨ho4, fun l => ?_, fun k => ?_, fun k => ?_, fun k k' g hne hk hk' => ?_⟩
  · by_cases e : l = kI r
    · subst e
      rw [has_put_same hIM (kI_key r)]
      exact ⟨fun _ => ⟨i, by omega, by rw [hr]⟩, fun _ => rfl⟩
    · rw [has_put_other e, h.keys]
      constructor
      · rintro ⟨k, hk, hl⟩; exact ⟨k, by omega, hl⟩
      · rintro ⟨k, hk, hl⟩
        refine ⟨k, ?_, hl⟩
        by_cases e2 : k = i
        · subst e2; rw [hr] at hl; exact absurd hl e
        · omega
  · unfold updV
    by_cases e : k = r
    · subst e; rw [if_pos rfl, atKey_put_same hIM (kI_key _)]
    · rw [if_neg e, atKey_put_other (fun h => e (kI_inj h)), h.val]
  · rw [hpart k]
    unfold updV
    by_cases e : k = r
    · rw [if_pos e, if_pos e, List.length_append, lineCells_append]
      exact ownsRow_base (World.ownsRow.kept ho3 h34 (Or.inr hnb)) (fun j hj => by
        simp [Value.ownBlock] at hj
        subst hj
        rcases hloc with e' | e'
        · exact ((h.row r).lt _ e').1
        · omega)
    · rw [if_neg e, if_neg e]
      have q1 := row_kept (h.row k) f12 (fun _ _ h => h)
      have q2 : w3.ownsRow base 102 3 (V k) _ _ := q1.kept h23 (by
        cases hv : (V k).ownBlock with
        | none => exact Or.inl rfl
        | some g => exact Or.inr (fun e' => h.sep k r g e hv e'.symm))
      exact q2.kept h34 (Or.inr (h.off k))
  · unfold updV at hk hk'
    by_cases e : k = r
    · rw [if_pos e] at hk
      rw [if_neg (fun e' => hne (e.trans e'.symm))] at hk'
      simp [Value.ownBlock] at hk
      subst hk
      exact hother k' (fun e' => hne (e.trans e'.symm)) hk'
    · rw [if_neg e] at hk
      by_cases e' : k' = r
      · rw [if_pos e'] at hk'
        simp [Value.ownBlock] at hk'
        subst hk'
        exact hother k e hk
      · rw [if_neg e'] at hk'
        exact h.sep k k' g hne hk hk'

set_option maxRecDepth 100000 in
set_option maxHeartbeats 4000000 in
theorem partsOf_ok (N g cL base : Nat) (ao : Option Addr) (A : List Line) (ls : Nat → Line) (f : Nat → Nat) (w : World) (hN : N ≤ 1048576) (hA : A.length = N) (hls : ∀ (i : Nat) (h : i < A.length), A[i] = ls i) (hd : Dn f) (ho : FoAt w g N f)
    (hl : w.ownsRow base 102 3 (.slice ao N cL) N (lineCells A)) :
    Calls Try.prog 36 #[.slice ao N cL, .slice (some ⟨g, 0, none⟩) N N] w fun e w' => ∃ b D V, e = .returned (.map (some b)) ∧ w.heap.size ≤ b ∧ Parts w' w.heap.size b N ls (rt f) N D V ∧ Fr (fun k => k = g) w w' := by
  obtain ⟨i0, hi, hz0, hz1, hz2⟩ := info_parts Try.infoLine
  have HO0 : Hid (FoAt w g N f) := ho
  have HD0 : Hid (Dn f) := hd
  have hglt := ho.lt
  have HL : Hid (∀ w', Fr (fun k => k = g) w w' → ∀ i, i < N → ∃ gL, ao = some ⟨gL, 0, none⟩ ∧ w'.cell? ⟨gL, i * 3, none⟩ = some (.int .i64 ((ls i).1 : Nat)) ∧ w'.cell? ⟨gL, i * 3 + 1, none⟩ = some (.int .i64 ((ls i).2.1 : Nat)) ∧ w'.cell? ⟨gL, i * 3 + 2, none⟩ = some (.int .i64 ((ls i).2.2 : Nat))) := fun w' hf i hi => by
    have h1 := row_kept hl hf (fun k hk e => own_ne hl ho (by decide) (by rw [hk, e]))
    obtain ⟨gL, kL, eL, _⟩ := row_form h1 (by omega)
    simp only [Value.slice.injEq] at eL
    obtain ⟨rfl, _, rfl⟩ := eL
    have := line_read h1 hA.symm (show i < A.length by omega)
    rw [hls i (by omega)] at this
    exact ⟨gL, rfl, this⟩
  clear ho hd hl hls hA
  have hmm := @run_makeMap Try.prog
  have HZ : Hid (Parts (w.alloc (.map #[] 0)) w.heap.size w.heap.size 0 ls (rt f) 0 (.map []) (fun _ => .slice none 0 0)) := parts_zero w _ _ _
  have HF0 : Hid (Fr (fun k => k = g) w (w.alloc (.map #[] 0))) := (Fr.refl _ _).alloc _
  have HOA : Hid (FoAt (w.alloc (.map #[] 0)) g N f) := HO0.out.kept ((Fr.refl (fun _ => False) w).alloc _) (fun h => h)
  obtain ⟨b, HLK⟩ : ∃ b, Hid (b = w.heap.size) := ⟨_, rfl⟩
  have hsw : ∀ x : Nat, x = w.heap.size → Parts (w.alloc (.map #[] 0)) w.heap.size x 0 ls (rt f) 0 (.map []) (fun _ => .slice none 0 0) := fun x e => by rw [e]; exact HZ.out
  have HZ2 : Hid (Parts (w.alloc (.map #[] 0)) w.heap.size b 0 ls (rt f) 0 (.map []) (fun _ => .slice none 0 0)) := hsw b HLK.out
  clear hsw HZ HO0
  go_enter Try.func36, Try.ntmps36
  go_wp2_with fail
  rw [← HLK.out]
  go_loopg [12] N (fun q k wr => ∃ (i : Nat) (f' : Nat → Nat) (D : DataW Value) (V : Nat → Value), i + q = N ∧ k = .int .i64 i ∧ FoAt wr g N f' ∧ Dn f' ∧ (∀ k, rt f' k = rt f k) ∧ Parts wr w.heap.size b i ls (rt f) i D V ∧ Fr (fun k => k = g) w wr)
  case atStart => exact ⟨0, f, _, _, by omega, rfl, HOA.out, HD0.out, fun _ => rfl, HZ2.out, HF0.out⟩
  case round =>
    clear HOA HD0 HZ2 HF0 hmm
    obtain ⟨i, f1, D, V, hq, rfl, ho, hd, hrt, hp, hfr⟩ := hrel
    have HO : Hid (FoAt wr g N f1) := ho
    have HD : Hid (Dn f1) := hd
    have HRT : Hid (∀ k, rt f1 k = rt f k) := hrt
    have HP : Hid (Parts wr w.heap.size b i ls (rt f) i D V) := hp
    have HF : Hid (Fr (fun k => k = g) w wr) := hfr
    clear ho hd hrt hp hfr
    by_cases hin : i < N
    · have di : decide (i < N) = true := decide_eq_true hin
      obtain ⟨gL, rfl, r0, r1, r2⟩ := HL.out wr HF.out i hin
      have HLI : Hid (lineCells [ls i] = [.int .i64 ((ls i).1 : Nat), .int .i64 ((ls i).2.1 : Nat), .int .i64 ((ls i).2.2 : Nat)]) := rfl
      generalize (ls i).1 = Y at *
      generalize (ls i).2.1 = a1 at *
      generalize (ls i).2.2 = a2 at *
      have hgw : g < wr.heap.size := Nat.lt_of_lt_of_le hglt HF.out.size
      have HFA : Hid (Fr (fun k => k = g) w (wr.alloc (.cells #[.int .i64 Y, .int .i64 a1, .int .i64 a2] 102))) := HF.out.alloc _
      have HOB : Hid (FoAt (wr.alloc (.cells #[.int .i64 Y, .int .i64 a1, .int .i64 a2] 102)) g N f1) := HO.out.kept ((Fr.refl (fun _ => False) wr).alloc _) (fun h => h)
      have HPB : Hid (Parts (wr.alloc (.cells #[.int .i64 Y, .int .i64 a1, .int .i64 a2] 102)) w.heap.size b i ls (rt f) i D V) := HP.out.kept ((Fr.refl (fun _ => False) wr).alloc _) (fun h => h) (fun _ _ _ h => h)
      have HB : Hid (∀ w', Fr (fun k => k = g) (wr.alloc (.cells #[.int .i64 Y, .int .i64 a1, .int .i64 a2] 102)) w' → w'.cell? ⟨wr.heap.size, 0, none⟩ = some (.int .i64 Y) ∧ w'.cell? ⟨wr.heap.size, 1, none⟩ = some (.int .i64 a1) ∧ w'.cell? ⟨wr.heap.size, 2, none⟩ = some (.int .i64 a2)) := fun w' hf => by
        obtain ⟨c0, c1, c2, _⟩ := cell_of_three ((hf.block wr.heap.size (by simp) (fun hh => by omega)).trans (heap_alloc_new wr _))
        exact ⟨c0, c1, c2⟩
      have hrb : rt f i ≤ 1048576 := by have := rt_le f i; omega
      have HKEY : Hid (keyOf Try.prog 3 (.int .i64 (rt f i : Nat)) = some (kI (rt f i))) := keyI _ hrb
      go_wp2_with fail
      refine (root_any g N i f1 _ hin HD.out HOB.out).mono ?_
      rintro e w1 ⟨f2, rfl, o1, d1, t1, k1⟩
      rw [HRT.out]
      have HO1 : Hid (FoAt w1 g N f2) := o1
      have HD1 : Hid (Dn f2) := d1
      have HT1 : Hid (∀ k, rt f2 k = rt f k) := fun k => (t1 k).trans (HRT.out k)
      have HF1 : Hid (Fr (fun k => k = g) w w1) := HFA.out.trans k1 (fun _ _ h => h)
      have HP1 : Hid (Parts w1 w.heap.size b i ls (rt f) i D V) := HPB.out.kept k1 (fun e => by
        subst e
        obtain ⟨es, cl, hb, _⟩ := HPB.out.own
        exact row_not_map HOB.out hb rfl) (fun r k hk e => own_ne (HPB.out.row r) HOB.out (by decide) (by rw [hk, e]))
      obtain ⟨c0, c1, c2⟩ := HB.out w1 k1
      clear o1 d1 t1 k1 HB HPB HOB HFA HP HO HD HRT r0 r1 r2
      have hln := partTo_len ls (rt f) (rt f i) i
      have HA0 : Hid (w1.ownsRow 0 102 3 (V (rt f i)) (partTo ls (rt f) i (rt f i)).length (lineCells (partTo ls (rt f) i (rt f i)))) := ownsRow_base (HP1.out.row (rt f i)) (fun _ _ => Nat.zero_le _)
      have hb1 : w.heap.size ≤ w1.heap.size := HF1.out.size
      generalize hvr : V (rt f i) = vr at *
      generalize hwr : wr.heap.size = bl at *
      clear hwr
      go_wp2_with (first | (at_lookup; refine wpList_lookup_held _ rfl _ _ 68 rfl 3 66 Try.keyed Try.underlying68 (.slice none 0 0) (Try.zero66 _) b i D rfl HP1.out.own _ _ rfl HKEY.out vr ((HP1.out.val _).trans (by rw [hvr])) ?_) | (at_builtin; refine wpList_append_row _ rfl _ _ 66 rfl 102 i0 (.agg #[.int .i64 0, .int .i64 0, .int .i64 0]) 3 24 Try.underlying66 hi hz0 hz1 hz2 rfl (by decide) _ _ _ rfl (HA0.out.alloc _) ⟨w1.heap.size, 0, none⟩ 1 1 _ rfl rfl (cell_three_new _ _ _ _ _) ?_ ?_ ?_ (by decide) ?_))
      · intro u hu; simp at hu; rcases hu with rfl | rfl | rfl <;> rfl
      · unfold maxLen; omega
      · omega
      · intro g' cap' w3 hown3 hgrow3 hloc hc1 hc2
        subst hvr
        have HM3 : Hid (w3.ownsMap Try.prog 3 heldR b i D) := (HP1.out.own.alloc _).kept hgrow3 (fun e => HP1.out.off (rt f i) e.symm)
        have HG3 : Hid (World.grownBy (w1.alloc (.cells #[.int .i64 Y, .int .i64 a1, .int .i64 a2] 102)) w3 (V (rt f i)).ownBlock) := hgrow3
        rw [← HLI.out] at hown3
        have HO3 : Hid (w3.ownsRow 0 102 3 (.slice (some ⟨g', 0, none⟩) ((partTo ls (rt f) i (rt f i)).length + 1) cap') ((partTo ls (rt f) i (rt f i)).length + 1) (lineCells (partTo ls (rt f) i (rt f i)) ++ lineCells [ls i])) := hown3
        have HLC : Hid ((V (rt f i)).ownBlock = some g' ∨ (w1.alloc (.cells #[.int .i64 Y, .int .i64 a1, .int .i64 a2] 102)).heap.size ≤ g') := by rw [World.size_alloc]; exact hloc
        clear hgrow3 hown3 hloc hc1 hc2 c0 c1 c2 HA0
        go_wp2_with (first | (at_mapUpdate; refine wpList_mapUpdate_own _ rfl _ _ _ 68 rfl 3 66 Try.keyed Try.underlying68 heldR b i D rfl HM3.out (by unfold maxLen; omega) _ _ _ rfl rfl HKEY.out _ [] rfl ?_; intro w4 hown4 hgrow4))
        have HP4 : Hid (Parts w4 w.heap.size b (i + 1) ls (rt f) (i + 1) _ _) := HP1.out.step rfl hb1 ((Fr.refl (fun _ => False) w1).alloc _) HO3.out HG3.out HLC.out hown4 hgrow4
        have HO4 : Hid (FoAt w4 g N f2) := World.ownsRow.kept (World.ownsRow.kept (World.ownsRow.alloc HO1.out _) HG3.out (Or.inr (fun e => own_ne (HP1.out.row (rt f i)) HO1.out (by decide) e.symm))) hgrow4 (Or.inr (by
          obtain ⟨es, cl, hb, _⟩ := HP1.out.own
          exact row_not_map HO1.out hb))
        have HF4 : Hid (Fr (fun k => k = g) w w4) := ((HF1.out.alloc _).grown HG3.out (fun k hk hlt => by have := ((HP1.out.row (rt f i)).lt k hk).1; omega)).grown hgrow4 (fun k hk hlt => by cases hk; have := HLK.out; omega)
        clear hown4 hgrow4
        go_wp2_with fail
        go_roundg (N - (i + 1))
        case measure => omega
        case rel => exact ⟨i + 1, f2, _, _, by omega, rfl, HO4.out, HD1.out, HT1.out, HP4.out, HF4.out⟩
    · have di : decide (i < N) = false := decide_eq_false hin
      have HPN : Hid (Parts wr w.heap.size b N ls (rt f) N D V) := by have := HP.out; rwa [show i = N by omega] at this
      go_wp2_with fail
      go_ret
      exact ⟨b, D, V, rfl, by have := HLK.out; omega, HPN.out, HF.out⟩

end Go.Proofs.Ytgpciopoionmeaa
