/- 'WholeBack'. -/
import Derived.Test.YtllhekkclhcdbaaDoorIt
import Derived.Test.YtllhekkclhcdbaaDoorStates
namespace Go.Proofs.YtllhekkclhcdbaaDoor
open Go.RowKit

theorem Tryd.info48 : (Tryd.prog.info? 48).map (fun i => (i.zero, i.size, i.bytes)) = some (some (.agg #[.bool false, .int .i64 0, .int .i64 0, .int .i64 0, .bool false]), 5, 40) := by kernel_rfl

theorem row_apart {W : World} {bc gc n gb cb : Nat} {o : Co} {v : Value} {m : Nat} {xs : List Value} (hc : CoAt W bc gc n gb cb o) (hr : W.ownsRow 0 48 5 v m xs) : ∀ k, v.ownBlock = some k → ¬ (k = bc ∨ k = gc ∨ k = gb) := by
  intro k hk
  obtain ⟨cur, h1⟩ := row_type2 hr hk
  obtain ⟨c1, h2⟩ := row_type hc.xs
  obtain ⟨c2, h3⟩ := row_type hc.bs
  have h4 := hc.blk
  rintro (rfl | rfl | rfl)
  · rw [h1] at h4; cases h4
  · rw [h1] at h2; cases h2
  · rw [h1] at h3; cases h3

theorem five_cells {w : World} {b : Nat} {x0 x1 x2 x3 x4 : Value} {t : TypeId} (h : w.heap[b]? = some (.cells #[x0, x1, x2, x3, x4] t (0, 0))) : w.cell? ⟨b, 0, none⟩ = some x0 ∧ w.cell? ⟨b, 1, none⟩ = some x1 ∧ w.cell? ⟨b, 2, none⟩ = some x2 ∧ w.cell? ⟨b, 3, none⟩ = some x3 ∧ w.cell? ⟨b, 4, none⟩ = some x4 := by
  refine ⟨?_, ?_, ?_, ?_, ?_⟩ <;> simp [World.cell?, h]

theorem five_new (w : World) (x0 x1 x2 x3 x4 : Value) (t : TypeId) : ∀ (j : Nat) (u : Value), [x0, x1, x2, x3, x4][j]? = some u → (w.alloc (.cells #[x0, x1, x2, x3, x4] t)).cell? ((⟨w.heap.size, 0, none⟩ : Addr).add j) = some u := by
  intro j u hu
  have ha : (⟨w.heap.size, 0, none⟩ : Addr).add j = ⟨w.heap.size, j, none⟩ := by unfold Addr.add; split <;> simp_all
  have hb := heap_alloc_new w (.cells #[x0, x1, x2, x3, x4] t)
  rw [ha, World.cell?]
  simp only [hb]
  rw [← hu]
  simp

/-- What the first loop holds. -/
structure BkI (w wr : World) (ao : Option Addr) (n cap bc gc : Nat) (I : Nat → It) (p : Value) (i g c : Nat) : Prop where
  box : wr.cell? ⟨w.heap.size, 0, none⟩ = some (.slice ao n cap)
  cs : CS w wr 9000 bc gc g c (runL (newP 9000) (itsL (dn I i))) (38 * i)
  row : wr.ownsRow 0 48 5 p (dn I i).length (itCells (dn I i))
  new : ∀ k, p.ownBlock = some k → w.heap.size < k
  more : w.heap.size < bc ∧ w.heap.size < gc ∧ w.heap.size < g

theorem BkI.later {w wr W : World} {ao : Option Addr} {n cap bc gc : Nat} {I : Nat → It} {p : Value} {i g c : Nat} (h : BkI w wr ao n cap bc gc I p i g c) (f : Fr (fun _ => False) wr W) : BkI w W ao n cap bc gc I p i g c :=
  ⟨f.cell h.box (fun h => h), h.cs.later f, row_kept h.row f (fun _ _ h => h), h.new, h.more⟩
/-- The coder went on. -/
theorem BkI.coded {w wr W : World} {ao : Option Addr} {n cap bc gc : Nat} {I : Nat → It} {p : Value} {i g c g2 c2 : Nat} (h : BkI w wr ao n cap bc gc I p i g c) (h0 : RowsAt w) (hi : i < 200) (hg : (I i).good) (hc : CoAt W bc gc 9000 g2 c2 (runL (runL (newP 9000) (itsL (dn I i))) (I i).dec)) (hs : CStep bc gc g g2 wr W) :
    W.cell? ⟨w.heap.size, 0, none⟩ = some (.slice ao n cap) ∧ CS w W 9000 bc gc g2 c2 (runL (newP 9000) (itsL (dn I (i + 1)))) (38 * (i + 1)) ∧ W.ownsRow 0 48 5 p (dn I i).length (itCells (dn I i)) ∧ w.heap.size < g2 := by
  have hst := h.cs.step h0 (k := 38) (It.dec_len hg) (by omega) hc hs
  have e : runL (runL (newP 9000) (itsL (dn I i))) (I i).dec = runL (newP 9000) (itsL (dn I (i + 1))) := by
    have ed : dn I (i + 1) = dn I i ++ [I i] := by
      show (if (I i).good then dn I i ++ [I i] else dn I i) = _
      rw [if_pos hg]
    rw [← runL_cat, ← itsL_snoc, ed]
  rw [e] at hst
  have hm := h.more
  refine ⟨hs.fr.cell h.box (by omega), hst, row_kept h.row hs.fr (row_apart h.cs.co h.row), ?_⟩
  have h1 := h.cs.co.blt
  have h2 := hs.row
  omega

set_option maxRecDepth 100000 in
set_option maxHeartbeats 8000000 in
set_option linter.unusedSimpArgs false in
theorem back5_any (w : World) (ao : Option Addr) (n cap : Nat) (I : Nat → It) (h : ItemsAt w ao n I) (hbd : ∀ j, j < n → -9223372036854775808 ≤ (I j).b ∧ (I j).b ≤ 9223372036854775807) (hr : RowsAt w) :
    Calls Tryd.prog 6 #[.agg #[.slice ao n cap]] w fun e w' => e = .returned (.bool true) ∧ Fr (fun _ => False) w w' := by
  obtain ⟨i0, hinf, hz0, hz1, hz2⟩ := info_parts Tryd.info48
  have HL : Hid (ItemsAt w ao n I) := h
  have HBd : Hid (∀ j, j < n → -9223372036854775808 ≤ (I j).b ∧ (I j).b ≤ 9223372036854775807) := hbd
  have HR : Hid (RowsAt w) := hr
  have hbox := cell_new1 w (.slice ao n cap) 39
  have HB0 : Hid ((w.alloc (.cells #[.slice ao n cap] 39)).cell? ⟨w.heap.size, 0, none⟩ = some (.slice ao n cap)) := hbox
  clear h hbd hr hbox
  go_enter Tryd.func6, Tryd.ntmps6
  go_wp2_with fail
  refine (new_any _ 9000 (by omega) (by omega)).mono ?_
  rintro e w1 ⟨bc, gc, gb, rfl, hco, f1, l1, l2, l3⟩
  have F1 : Fr (fun _ => False) w w1 := Fr.trans ((Fr.refl _ _).alloc _) f1 (fun _ _ h => h)
  rw [World.size_alloc] at l1 l2 l3
  have HB : Hid (BkI w w1 ao n cap bc gc I (.slice none 0 0) 0 gb 1) := ⟨f1.cell HB0.out (fun h => h), ⟨hco, newP_ok (by omega) (by omega), Nat.le_refl _, List.length_replicate, ⟨by omega, by omega, by omega⟩, F1, HR.out.kept F1 (fun h => h)⟩, World.ownsRow_nil _ _ _ _, (fun k e => by cases e), ⟨by omega, by omega, by omega⟩⟩
  clear hco f1 l1 l2 l3 F1 HB0
  go_wp2_with fail
  go_loopw [5, 6] (fun p q wr => ∃ i : Nat, i ≤ n ∧ i ≤ 200 ∧ q = .int .i64 (i : Int) ∧ ∃ g c, BkI w wr ao n cap bc gc I p i g c)
    (fun _ q _ => ((n : Int) - intOf q).toNat)
  case atStart => exact ⟨0, Nat.zero_le _, Nat.zero_le _, rfl, gb, 1, HB.out⟩
  case round =>
    obtain ⟨i, hi, hi2, rfl, g, c, hbk⟩ := hrel
    clear HB
    have hbox := hbk.box
    by_cases hin : i < n ∧ i < 200
    · obtain ⟨hin1, hin2⟩ := hin
      have hdec1 : decide (i < n) = true := decide_eq_true hin1
      have hdec2 : decide ((i : Int) < 200) = true := decide_eq_true (by omega)
      obtain ⟨ab, off, eao, hc⟩ := (HL.out.kept hbk.cs.fr (fun _ _ _ h => h)).at_ (by omega)
      obtain ⟨c0, c1, c2, c3, c4⟩ := hc i hin1
      have hb1 := HBd.out i hin1
      have k2 : IntKind.i64.wrap ((i : Int) + 1) = (i : Int) + 1 := by rw [IntKind.wrap_i64]; omega
      obtain ⟨it, eit⟩ : ∃ it, I i = it := ⟨_, rfl⟩
      rw [eit] at c0 c1 c2 c3 c4 hb1
      obtain ⟨idb, b, wd, v, nn⟩ := it
      dsimp only at c0 c1 c2 c3 c4 hb1
      have hal : Fr (fun _ => False) wr (wr.alloc (.cells #[.bool idb, .int .i64 b, .int .i64 wd, .int .i64 v, .bool nn] 48)) := (Fr.refl _ _).alloc _
      have hfive := five_cells (heap_alloc_new wr (.cells #[.bool idb, .int .i64 b, .int .i64 wd, .int .i64 v, .bool nn] 48))
      have HK : Hid (BkI w (wr.alloc (.cells #[.bool idb, .int .i64 b, .int .i64 wd, .int .i64 v, .bool nn] 48)) ao n cap bc gc I u5 i g c) := hbk.later hal
      have HIi : Hid (I i = ⟨idb, b, wd, v, nn⟩ ∧ i < n ∧ i < 200 ∧ (-9223372036854775808 ≤ b ∧ b ≤ 9223372036854775807)) := ⟨eit, hin1, hin2, hb1⟩
      subst eao
      clear hc hi hi2 eit hb1 hal
      cases idb
      · have hput := put_item HK.out.cs (by have := HIi.out; omega) ⟨false, b, wd, v, nn⟩ rfl HIi.out.2.2.2
        dsimp only at hput
        have HPut : Hid _ := hput
        obtain ⟨q0, q1, q2, q3, q4⟩ := hfive
        have hwz := wr.heap.size
        clear hput hwz hbk
        go_wp2_with fail
        refine Calls.mono (R := fun e w' => ((⟨false, b, wd, v, nn⟩ : It).good ∧ e = .returned (.int .i64 0) ∧ ∃ gb' cb', CoAt w' bc gc 9000 gb' cb' (runL (runL (newP 9000) (itsL (dn I i))) (⟨false, b, wd, v, nn⟩ : It).dec) ∧ CStep bc gc g gb' (wr.alloc (.cells #[.bool false, .int .i64 b, .int .i64 wd, .int .i64 v, .bool nn] 48)) w') ∨ (¬ (⟨false, b, wd, v, nn⟩ : It).good ∧ ∃ z, e = .returned (.int .i64 z) ∧ z ≠ 0 ∧ Fr (fun _ => False) (wr.alloc (.cells #[.bool false, .int .i64 b, .int .i64 wd, .int .i64 v, .bool nn] 48)) w')) HPut.out ?_
        rintro e w2 (⟨hgood, rfl, g2, cb2, hco2, hst2⟩ | ⟨hbad, z, rfl, hz, f2⟩)
        · obtain ⟨eIi, _, _, _⟩ := HIi.out
          have hcd := HK.out.coded (W := w2) (g2 := g2) (c2 := cb2) HR.out HIi.out.2.2.1 (by rw [eIi]; exact hgood) (by rw [eIi]; exact hco2) hst2
          have hwl : wr.heap.size < (wr.alloc (.cells #[.bool false, .int .i64 b, .int .i64 wd, .int .i64 v, .bool nn] 48)).heap.size := by simp
          have n0 : ¬ (wr.heap.size = bc ∨ wr.heap.size = gc ∨ wr.heap.size = g) := by
            rintro (e | e | e)
            · have := HK.out.cs.co.blk
              rw [← e, heap_alloc_new] at this; cases this
            · obtain ⟨cu, hcu⟩ := row_type HK.out.cs.co.xs
              rw [← e, heap_alloc_new] at hcu; cases hcu
            · obtain ⟨cu, hcu⟩ := row_type HK.out.cs.co.bs
              rw [← e, heap_alloc_new] at hcu; cases hcu
          have r0 := hst2.fr.cell q0 n0
          have r1 := hst2.fr.cell q1 n0
          have r2 := hst2.fr.cell q2 n0
          have r3 := hst2.fr.cell q3 n0
          have r4 := hst2.fr.cell q4 n0
          have HCd : Hid _ := hcd
          have hrow := (row_kept hcd.2.2.1 (Fr.alloc (Fr.refl (fun _ => False) w2) (.cells #[.bool false, .int .i64 b, .int .i64 wd, .int .i64 v, .bool nn] 48)) (fun _ _ h => h))
          obtain ⟨s0, s1, s2, s3, s4⟩ := five_cells (heap_alloc_new w2 (.cells #[.bool false, .int .i64 b, .int .i64 wd, .int .i64 v, .bool nn] 48))
          have hdl := dn_len I i
          have hi200 := HIi.out.2.2.1
          have hdn : dn I (i + 1) = dn I i ++ [⟨false, b, wd, v, nn⟩] := by
            show (if (I i).good then dn I i ++ [I i] else dn I i) = _
            rw [eIi, if_pos hgood]
          have HDn : Hid (dn I (i + 1) = dn I i ++ [⟨false, b, wd, v, nn⟩]) := hdn
          clear hco2 hst2 hgood hdn eIi n0 hwl
          go_wp2_with (first | (at_builtin; refine wpList_append_row _ rfl _ _ 37 rfl 48 i0 (.agg #[.bool false, .int .i64 0, .int .i64 0, .int .i64 0, .bool false]) 5 40 Tryd.underlying37 hinf hz0 hz1 hz2 rfl (by decide) u5 _ _ rfl hrow ⟨w2.heap.size, 0, none⟩ 1 1 [.bool false, .int .i64 b, .int .i64 wd, .int .i64 v, .bool nn] rfl rfl (five_new w2 _ _ _ _ _ 48) ?c2 ?c3 ?c4 (by decide) ?_))
          case c2 => simp [Value.oneCell']
          case c3 => unfold maxLen; omega
          case c4 => omega
          intro ga ca w3 hrow3 hgrow3 hga3 _ _
          have HR3 : Hid _ := hrow3
          have HG3 : Hid ((w2.alloc (.cells #[.bool false, .int .i64 b, .int .i64 wd, .int .i64 v, .bool nn] 48)).grownBy w3 u5.ownBlock) := hgrow3
          have HA3 : Hid (u5.ownBlock = some ga ∨ w2.heap.size + 1 ≤ ga) := hga3
          clear hga3 hgrow3 hrow3
          go_wp2_with fail
          go_roundw
          case rel =>
            obtain ⟨h1, h2, h3, h4⟩ := HCd.out
            obtain ⟨eIi, a1, a2, _⟩ := HIi.out
            have hk := HK.out
            have hal2 : Fr (fun _ => False) w2 (w2.alloc (.cells #[.bool false, .int .i64 b, .int .i64 wd, .int .i64 v, .bool nn] 48)) := (Fr.refl _ _).alloc _
            have F3 : Fr (fun k => u5.ownBlock = some k) w2 w3 := Fr.grown (Fr.alloc (Fr.refl _ w2) _) HG3.out (fun k e _ => e)
            have hap := row_apart h2.co h3
            have Fw : Fr (fun _ => False) w w3 := Fr.trans h2.fr F3 (fun k hkk e => by have := hk.new k e; omega)
            have hz3 := h2.fr.size
            refine ⟨i + 1, by omega, by omega, by push_cast; rfl, g2, cb2, ⟨F3.cell h1 (fun e => by have := hk.new _ e; omega), ⟨h2.co.kept F3 (fun e => hap _ e (.inl rfl)) (fun e => hap _ e (.inr (.inl rfl))) (fun e => hap _ e (.inr (.inr rfl))), h2.ok, h2.made, h2.xl, h2.new, Fw, HR.out.kept Fw (fun h => h)⟩, ?_, ?_, ⟨hk.more.1, hk.more.2.1, h4⟩⟩⟩
            · rw [HDn.out]
              have := HR3.out
              rw [List.length_append, itCells, List.flatMap_append]
              exact this
            · intro k e
              cases e
              rcases HA3.out with e | e
              · exact hk.new _ e
              · show w.heap.size < ga
                omega
          case measure => have := HIi.out; simp [intOf]; omega
        · have HK2 : Hid (BkI w w2 _ n cap bc gc I u5 i g c) := HK.out.later f2
          have HBad : Hid (¬ (⟨false, b, wd, v, nn⟩ : It).good) := hbad
          have hz1' : ((z : Int) == 0) = false := by simp [hz]
          have hz2' : decide (z = 0) = false := decide_eq_false hz
          clear f2 hbad hz
          go_wp2_with fail
          go_roundw
          case rel =>
            obtain ⟨eIi, a1, a2, _⟩ := HIi.out
            have hdn : dn I (i + 1) = dn I i := by
              show (if (I i).good then dn I i ++ [I i] else dn I i) = _
              rw [eIi, if_neg HBad.out]
            have hk := HK2.out
            refine ⟨i + 1, by omega, by omega, by push_cast; rfl, g, c, ⟨hk.box, ?_, ?_, hk.new, hk.more⟩⟩
            · rw [hdn]
              have := hk.cs
              exact ⟨this.co, this.ok, by have := this.made; omega, this.xl, this.new, this.fr, this.rows⟩
            · rw [hdn]; exact hk.row
          case measure => have := HIi.out; simp [intOf]; omega
      · have hput := putID_item HK.out.cs (by have := HIi.out; omega) ⟨true, b, wd, v, nn⟩ rfl HIi.out.2.2.2
        dsimp only at hput
        have HPut : Hid _ := hput
        obtain ⟨q0, q1, q2, q3, q4⟩ := hfive
        have hwz := wr.heap.size
        clear hput hwz hbk
        go_wp2_with fail
        refine Calls.mono (R := fun e w' => ((⟨true, b, wd, v, nn⟩ : It).good ∧ e = .returned (.int .i64 0) ∧ ∃ gb' cb', CoAt w' bc gc 9000 gb' cb' (runL (runL (newP 9000) (itsL (dn I i))) (⟨true, b, wd, v, nn⟩ : It).dec) ∧ CStep bc gc g gb' (wr.alloc (.cells #[.bool true, .int .i64 b, .int .i64 wd, .int .i64 v, .bool nn] 48)) w') ∨ (¬ (⟨true, b, wd, v, nn⟩ : It).good ∧ ∃ z, e = .returned (.int .i64 z) ∧ z ≠ 0 ∧ Fr (fun _ => False) (wr.alloc (.cells #[.bool true, .int .i64 b, .int .i64 wd, .int .i64 v, .bool nn] 48)) w')) HPut.out ?_
        rintro e w2 (⟨hgood, rfl, g2, cb2, hco2, hst2⟩ | ⟨hbad, z, rfl, hz, f2⟩)
        · obtain ⟨eIi, _, _, _⟩ := HIi.out
          have hcd := HK.out.coded (W := w2) (g2 := g2) (c2 := cb2) HR.out HIi.out.2.2.1 (by rw [eIi]; exact hgood) (by rw [eIi]; exact hco2) hst2
          have hwl : wr.heap.size < (wr.alloc (.cells #[.bool true, .int .i64 b, .int .i64 wd, .int .i64 v, .bool nn] 48)).heap.size := by simp
          have n0 : ¬ (wr.heap.size = bc ∨ wr.heap.size = gc ∨ wr.heap.size = g) := by
            rintro (e | e | e)
            · have := HK.out.cs.co.blk
              rw [← e, heap_alloc_new] at this; cases this
            · obtain ⟨cu, hcu⟩ := row_type HK.out.cs.co.xs
              rw [← e, heap_alloc_new] at hcu; cases hcu
            · obtain ⟨cu, hcu⟩ := row_type HK.out.cs.co.bs
              rw [← e, heap_alloc_new] at hcu; cases hcu
          have r0 := hst2.fr.cell q0 n0
          have r1 := hst2.fr.cell q1 n0
          have r2 := hst2.fr.cell q2 n0
          have r3 := hst2.fr.cell q3 n0
          have r4 := hst2.fr.cell q4 n0
          have HCd : Hid _ := hcd
          have hrow := (row_kept hcd.2.2.1 (Fr.alloc (Fr.refl (fun _ => False) w2) (.cells #[.bool true, .int .i64 b, .int .i64 wd, .int .i64 v, .bool nn] 48)) (fun _ _ h => h))
          obtain ⟨s0, s1, s2, s3, s4⟩ := five_cells (heap_alloc_new w2 (.cells #[.bool true, .int .i64 b, .int .i64 wd, .int .i64 v, .bool nn] 48))
          have hdl := dn_len I i
          have hi200 := HIi.out.2.2.1
          have hdn : dn I (i + 1) = dn I i ++ [⟨true, b, wd, v, nn⟩] := by
            show (if (I i).good then dn I i ++ [I i] else dn I i) = _
            rw [eIi, if_pos hgood]
          have HDn : Hid (dn I (i + 1) = dn I i ++ [⟨true, b, wd, v, nn⟩]) := hdn
          clear hco2 hst2 hgood hdn eIi n0 hwl
          go_wp2_with (first | (at_builtin; refine wpList_append_row _ rfl _ _ 37 rfl 48 i0 (.agg #[.bool false, .int .i64 0, .int .i64 0, .int .i64 0, .bool false]) 5 40 Tryd.underlying37 hinf hz0 hz1 hz2 rfl (by decide) u5 _ _ rfl hrow ⟨w2.heap.size, 0, none⟩ 1 1 [.bool true, .int .i64 b, .int .i64 wd, .int .i64 v, .bool nn] rfl rfl (five_new w2 _ _ _ _ _ 48) ?c2 ?c3 ?c4 (by decide) ?_))
          case c2 => simp [Value.oneCell']
          case c3 => unfold maxLen; omega
          case c4 => omega
          intro ga ca w3 hrow3 hgrow3 hga3 _ _
          have HR3 : Hid _ := hrow3
          have HG3 : Hid ((w2.alloc (.cells #[.bool true, .int .i64 b, .int .i64 wd, .int .i64 v, .bool nn] 48)).grownBy w3 u5.ownBlock) := hgrow3
          have HA3 : Hid (u5.ownBlock = some ga ∨ w2.heap.size + 1 ≤ ga) := hga3
          clear hga3 hgrow3 hrow3
          go_wp2_with fail
          go_roundw
          case rel =>
            obtain ⟨h1, h2, h3, h4⟩ := HCd.out
            obtain ⟨eIi, a1, a2, _⟩ := HIi.out
            have hk := HK.out
            have hal2 : Fr (fun _ => False) w2 (w2.alloc (.cells #[.bool true, .int .i64 b, .int .i64 wd, .int .i64 v, .bool nn] 48)) := (Fr.refl _ _).alloc _
            have F3 : Fr (fun k => u5.ownBlock = some k) w2 w3 := Fr.grown (Fr.alloc (Fr.refl _ w2) _) HG3.out (fun k e _ => e)
            have hap := row_apart h2.co h3
            have Fw : Fr (fun _ => False) w w3 := Fr.trans h2.fr F3 (fun k hkk e => by have := hk.new k e; omega)
            have hz3 := h2.fr.size
            refine ⟨i + 1, by omega, by omega, by push_cast; rfl, g2, cb2, ⟨F3.cell h1 (fun e => by have := hk.new _ e; omega), ⟨h2.co.kept F3 (fun e => hap _ e (.inl rfl)) (fun e => hap _ e (.inr (.inl rfl))) (fun e => hap _ e (.inr (.inr rfl))), h2.ok, h2.made, h2.xl, h2.new, Fw, HR.out.kept Fw (fun h => h)⟩, ?_, ?_, ⟨hk.more.1, hk.more.2.1, h4⟩⟩⟩
            · rw [HDn.out]
              have := HR3.out
              rw [List.length_append, itCells, List.flatMap_append]
              exact this
            · intro k e
              cases e
              rcases HA3.out with e | e
              · exact hk.new _ e
              · show w.heap.size < ga
                omega
          case measure => have := HIi.out; simp [intOf]; omega
        · have HK2 : Hid (BkI w w2 _ n cap bc gc I u5 i g c) := HK.out.later f2
          have HBad : Hid (¬ (⟨true, b, wd, v, nn⟩ : It).good) := hbad
          have hz1' : ((z : Int) == 0) = false := by simp [hz]
          have hz2' : decide (z = 0) = false := decide_eq_false hz
          clear f2 hbad hz
          go_wp2_with fail
          go_roundw
          case rel =>
            obtain ⟨eIi, a1, a2, _⟩ := HIi.out
            have hdn : dn I (i + 1) = dn I i := by
              show (if (I i).good then dn I i ++ [I i] else dn I i) = _
              rw [eIi, if_neg HBad.out]
            have hk := HK2.out
            refine ⟨i + 1, by omega, by omega, by push_cast; rfl, g, c, ⟨hk.box, ?_, ?_, hk.new, hk.more⟩⟩
            · rw [hdn]
              have := hk.cs
              exact ⟨this.co, this.ok, by have := this.made; omega, this.xl, this.new, this.fr, this.rows⟩
            · rw [hdn]; exact hk.row
          case measure => have := HIi.out; simp [intOf]; omega
    · by_cases hin1 : i < n
      · have hdec1 : decide (i < n) = true := decide_eq_true hin1
        have hdec2 : decide ((i : Int) < 200) = false := decide_eq_false (by omega)
        clear hin1
        have hl2 : (dn I i).length ≤ 200 := Nat.le_trans (dn_len I i) hi2
        have hgd := dn_good I i
        have hcs := hbk.cs
        have hrow := hbk.row
        have hnew := hbk.new
        clear hbk hi hi2 hin
        generalize dn I i = D at *
        have hln := itsL_len D hgd
        have HC : Hid (CS w wr 9000 bc gc g c (runL (newP 9000) (itsL D)) (38 * i) ∧ wr.ownsRow 0 48 5 u5 D.length (itCells D) ∧ (∀ k, u5.ownBlock = some k → w.heap.size < k)) := ⟨hcs, hrow, hnew⟩
        have HD : Hid (D.length ≤ 200 ∧ (∀ it ∈ D, it.good) ∧ (itsL D).length ≤ 38 * D.length) := ⟨hl2, hgd, hln⟩
        clear hl2 hgd hcs hrow hnew hln
        go_wp2_with fail
        refine (flush_any _ bc gc 9000 g c _ HC.out.1.co HC.out.1.ok).mono ?_
        rintro e w2 ⟨g2, m2, c2, rfl, hse, hdo, hst2, hg21, hg22⟩
        have hfresh := CStep.fresh HC.out.1.fr hst2 HC.out.1.new
        have hrow2 := row_kept HC.out.2.1 hst2.fr (row_apart HC.out.1.co HC.out.2.1)
        have HF2 : Hid (Fr (fun _ => False) w w2) := hfresh.1
        have HSe : Hid (SeenAt w2 (.slice (some ⟨g2, 1, none⟩) m2 c2) (codedB 9000 (itsL D))) := hse
        have HDo : Hid (DoAt w2 bc gc 9000 (runL (newP 9000) (itsL D)).x) := hdo
        have HRw : Hid (w2.ownsRow 0 48 5 u5 D.length (itCells D)) := hrow2
        have HCx : Hid (w.heap.size ≤ bc ∧ w.heap.size ≤ gc) := ⟨HC.out.1.new.1, HC.out.1.new.2.1⟩
        clear hse hdo hst2 hg21 hg22 hfresh hrow2 HC
        go_wp2_with fail
        refine (newDecoder_any _ _ (codedB 9000 (itsL D)) 9000 (by omega) (by omega) HSe.out (.inr ⟨_, _, _, rfl⟩) (codedB_lt (by omega) (by omega) (by have := HD.out; omega))).mono ?_
        rintro e w3 ⟨bd, gd, vb, rfl, hde, f3, l4, l5, l6⟩
        have hrow3 := row_kept HRw.out f3 (fun _ _ h => h)
        have hdo3 := HDo.out.kept f3 (fun h => h) (fun h => h)
        have hz2 := HF2.out.size
        have HF3 : Hid (Fr (fun _ => False) w w3) := Fr.trans HF2.out f3 (fun _ _ h => h)
        have hrlt : ∀ k, u5.ownBlock = some k → k < w2.heap.size := fun k e => (HRw.out.lt k e).2
        obtain ⟨ao2, cap2, rfl, hit, hown⟩ := items_of_row hrow3 HD.out.1
        have HIt : Hid (ItemsAt w3 ao2 D.length (fun j => D.getD j default)) := hit
        have HOw : Hid (∀ b off, ao2 = some ⟨b, off, none⟩ → b < w2.heap.size) := fun b off e => hrlt b (hown b off e)
        have HDe : Hid (DeAt w3 bd gd 9000 vb (codedB 9000 (itsL D)) (decL 9000 (itsL D) (itsL (D.take 0)).length)) := hde
        have HDo3 : Hid (DoAt w3 bc gc 9000 (runL (newP 9000) (itsL D)).x ∧ bc < w2.heap.size ∧ gc < w2.heap.size) := ⟨hdo3, HDo.out.lt, HDo.out.xlt⟩
        have HLd : Hid (w2.heap.size ≤ bd ∧ w2.heap.size ≤ gd ∧ w.heap.size ≤ w2.heap.size ∧ 0 < w.heap.size) := ⟨l4, l5, hz2, HR.out.lt⟩
        clear hde f3 l4 l5 l6 hrow3 hdo3 hz2 hrlt hit hown HSe HDo HRw
        go_wp2_with fail
        go_loopw [12] (fun p wr => ∃ j : Nat, j ≤ D.length ∧ p = .int .i64 (j : Int) ∧ DeAt wr bd gd 9000 vb (codedB 9000 (itsL D)) (decL 9000 (itsL D) (itsL (D.take j)).length) ∧ Fr (fun k => k = bd ∨ k = gd) w3 wr)
          (fun p _ => ((D.length : Int) - intOf p).toNat)
        case atStart => exact ⟨0, Nat.zero_le _, rfl, HDe.out, Fr.refl _ _⟩
        case round =>
          obtain ⟨j, hj, rfl, hde, hfr⟩ := hrel
          clear HDe
          obtain ⟨okd, mkd, xld⟩ := decL_ok HD.out.2.1 HD.out.1 j
          have hld := HLd.out
          have hFw : Fr (fun _ => False) w wr := Fr.trans HF3.out hfr (fun k hk h => by omega)
          have HFw : Hid (Fr (fun _ => False) w wr ∧ Fr (fun k => k = bd ∨ k = gd) w3 wr) := ⟨hFw, hfr⟩
          by_cases hjn : j < D.length
          · have hdecj : decide (j < D.length) = true := decide_eq_true hjn
            obtain ⟨ab, off, eao, hc⟩ := (HIt.out.kept hfr (fun b off e h => by have := HOw.out b off e; omega)).at_ (by omega)
            obtain ⟨c0, c1, c2, c3, c4⟩ := hc j hjn
            have k2 : IntKind.i64.wrap ((j : Int) + 1) = (j : Int) + 1 := by have := HD.out; rw [IntKind.wrap_i64]; omega
            have hidb := id_back HD.out.2.1 HD.out.1 hjn
            have hnum := num_back HD.out.2.1 HD.out.1 hjn
            have HJ : Hid (j < D.length) := hjn
            have HDe : Hid (DeAt wr bd gd 9000 vb (codedB 9000 (itsL D)) (decL 9000 (itsL D) (itsL (D.take j)).length) ∧ Eok (codedB 9000 (itsL D)) (decL 9000 (itsL D) (itsL (D.take j)).length) ∧ (decL 9000 (itsL D) (itsL (D.take j)).length).made ≤ 7600 ∧ (decL 9000 (itsL D) (itsL (D.take j)).length).x.length = 9000) := ⟨hde, okd, mkd, xld⟩
            generalize D.getD j default = it at *
            obtain ⟨idb, b, wd, v, nn⟩ := it
            dsimp only at c0 c1 c2 c3 c4 hidb hnum
            subst eao
            clear hc hde okd mkd xld hld hFw hfr hj
            cases idb
            · obtain ⟨bn, eb, hb9, hmay, n1, n2, n3⟩ := hnum rfl
              subst eb
              have hal : Fr (fun _ => False) wr (wr.alloc (.cells #[.bool false, .int .i64 (bn : Int), .int .i64 wd, .int .i64 v, .bool nn] 48)) := (Fr.refl _ _).alloc _
              have hld := HLd.out
              have hget := get_ok _ bd gd 9000 bn vb (codedB 9000 (itsL D)) _ (HDe.out.1.keptAll hal) HDe.out.2.1 (HR.out.kept (Fr.trans HFw.out.1 hal (fun _ _ h => h)) (fun h => h)) (by have := HDe.out; omega) (by rw [HDe.out.2.2.2]; exact hb9) ⟨by omega, by omega⟩ _ rfl
              obtain ⟨j1, j2, j3⟩ := join_back hmay
              rw [n1, n2, n3, j1, j2] at hget
              have hje : joinE (amountOf v nn) = 0 := by unfold joinE; rw [if_neg (by omega)]
              rw [hje] at hget
              obtain ⟨q0, q1, q2, q3, q4⟩ := five_cells (heap_alloc_new wr (.cells #[.bool false, .int .i64 (bn : Int), .int .i64 wd, .int .i64 v, .bool nn] 48))
              have HGet : Hid (Calls Tryd.prog 33 #[.pointer (some ⟨bd, 0, none⟩), .int .i64 (bn : Int)] (wr.alloc (.cells #[.bool false, .int .i64 (bn : Int), .int .i64 wd, .int .i64 v, .bool nn] 48)) fun e w' => e = .returned (.tuple #[.agg #[.int .i64 (if nn then 0 else v), .bool nn], .int .i64 0]) ∧ DeAt w' bd gd 9000 vb (codedB 9000 (itsL D)) (decL 9000 (itsL D) (itsL (D.take (j + 1))).length) ∧ DStep bd gd (wr.alloc (.cells #[.bool false, .int .i64 (bn : Int), .int .i64 wd, .int .i64 v, .bool nn] 48)) w') := hget
              have HAl : Hid (Fr (fun _ => False) wr (wr.alloc (.cells #[.bool false, .int .i64 (bn : Int), .int .i64 wd, .int .i64 v, .bool nn] 48))) := hal
              clear hidb hnum hb9 hmay n1 n2 n3 hal hld hget j1 j2 j3 hje
              go_wp2_with fail
              refine HGet.out.mono ?_
              rintro e w5 ⟨rfl, hde5, hst5⟩
              have hld := HLd.out
              have hw3 := HFw.out.2.size
              have hbdl := HDe.out.1.lt
              have hgdl := HDe.out.1.xlt
              have n5 : ¬ (wr.heap.size = bd ∨ wr.heap.size = gd) := by omega
              have r3 := hst5.cell q3 n5
              have r4 := hst5.cell q4 n5
              have HD5 : Hid (DeAt w5 bd gd 9000 vb (codedB 9000 (itsL D)) (decL 9000 (itsL D) (itsL (D.take (j + 1))).length)) := hde5
              have HF5 : Hid (Fr (fun k => k = bd ∨ k = gd) w3 w5) := Fr.trans (Fr.trans HFw.out.2 HAl.out (fun _ _ h => h.elim)) hst5 (fun _ _ h => h)
              have hvv : ((v : Int) != v) = false := by simp
              clear hde5 hst5 hld hw3 hbdl hgdl n5
              cases nn
              · simp only [Bool.false_eq_true, if_false]
                have t3 := Fr.cell (Fr.alloc (Fr.refl (fun _ => False) w5) (.cells #[.int .i64 v, .bool false] 46)) r3 (fun h => h)
                have t4 := Fr.cell (Fr.alloc (Fr.refl (fun _ => False) w5) (.cells #[.int .i64 v, .bool false] 46)) r4 (fun h => h)
                go_wp2_with fail
                go_roundw
                case rel => exact ⟨j + 1, by have := HJ.out; omega, by push_cast; rfl, HD5.out.keptAll ((Fr.refl _ _).alloc _), Fr.alloc HF5.out _⟩
                case measure => have := HJ.out; simp [intOf]; omega
              · simp only [if_true]
                have t3 := Fr.cell (Fr.alloc (Fr.refl (fun _ => False) w5) (.cells #[.int .i64 0, .bool true] 46)) r3 (fun h => h)
                have t4 := Fr.cell (Fr.alloc (Fr.refl (fun _ => False) w5) (.cells #[.int .i64 0, .bool true] 46)) r4 (fun h => h)
                go_wp2_with fail
                go_roundw
                case rel => exact ⟨j + 1, by have := HJ.out; omega, by push_cast; rfl, HD5.out.keptAll ((Fr.refl _ _).alloc _), Fr.alloc HF5.out _⟩
                case measure => have := HJ.out; simp [intOf]; omega
            · obtain ⟨bn, wn, vn, eb, ew, ev, hw12, hb9, n1, n2⟩ := hidb rfl
              subst eb; subst ew; subst ev
              have hal : Fr (fun _ => False) wr (wr.alloc (.cells #[.bool true, .int .i64 (bn : Int), .int .i64 (wn : Int), .int .i64 (vn : Int), .bool nn] 48)) := (Fr.refl _ _).alloc _
              have hget := getID_ok _ bd gd 9000 bn wn vb (codedB 9000 (itsL D)) _ (HDe.out.1.keptAll hal) HDe.out.2.1 (by have := HDe.out; omega) hw12 (by rw [HDe.out.2.2.2]; exact hb9)
              rw [n1, n2] at hget
              obtain ⟨q0, q1, q2, q3, q4⟩ := five_cells (heap_alloc_new wr (.cells #[.bool true, .int .i64 (bn : Int), .int .i64 (wn : Int), .int .i64 (vn : Int), .bool nn] 48))
              have HGet : Hid (Calls Tryd.prog 32 #[.pointer (some ⟨bd, 0, none⟩), .int .i64 (bn : Int), .int .i64 (wn : Int)] (wr.alloc (.cells #[.bool true, .int .i64 (bn : Int), .int .i64 (wn : Int), .int .i64 (vn : Int), .bool nn] 48)) fun e w' => e = .returned (.tuple #[.int .i64 (vn : Int), .int .i64 0]) ∧ DeAt w' bd gd 9000 vb (codedB 9000 (itsL D)) (decL 9000 (itsL D) (itsL (D.take (j + 1))).length) ∧ DStep bd gd (wr.alloc (.cells #[.bool true, .int .i64 (bn : Int), .int .i64 (wn : Int), .int .i64 (vn : Int), .bool nn] 48)) w') := hget
              have HAl : Hid (Fr (fun _ => False) wr (wr.alloc (.cells #[.bool true, .int .i64 (bn : Int), .int .i64 (wn : Int), .int .i64 (vn : Int), .bool nn] 48))) := hal
              clear hidb hnum hw12 hb9 n1 n2 hal hget
              go_wp2_with fail
              refine HGet.out.mono ?_
              rintro e w5 ⟨rfl, hde5, hst5⟩
              have hbdl := HDe.out.1.lt
              have hgdl := HDe.out.1.xlt
              have n5 : ¬ (wr.heap.size = bd ∨ wr.heap.size = gd) := by omega
              have r3 := hst5.cell q3 n5
              have HD5 : Hid (DeAt w5 bd gd 9000 vb (codedB 9000 (itsL D)) (decL 9000 (itsL D) (itsL (D.take (j + 1))).length)) := hde5
              have HF5 : Hid (Fr (fun k => k = bd ∨ k = gd) w3 w5) := Fr.trans (Fr.trans HFw.out.2 HAl.out (fun _ _ h => h.elim)) hst5 (fun _ _ h => h)
              have hvv : ((vn : Int) != (vn : Int)) = false := by simp
              clear hde5 hst5 hbdl hgdl n5
              go_wp2_with fail
              go_roundw
              case rel => exact ⟨j + 1, by have := HJ.out; omega, by push_cast; rfl, HD5.out, HF5.out⟩
              case measure => have := HJ.out; simp [intOf]; omega
          · have hdecj : decide (j < D.length) = false := decide_eq_false hjn
            have ejl : D.take j = D := List.take_of_length_le (by omega)
            rw [ejl] at hde okd xld
            have hbx := (back_list (n := 9000) (by omega) (by omega) (itsL_bit D) (by have := HD.out; omega) (itsL D).length (Nat.le_refl _)).1
            rw [List.take_length] at hbx
            have hdo := HDo3.out.1.kept hfr (by have := HDo3.out; omega) (by have := HDo3.out; omega)
            obtain ⟨y1, y2, y3, y4, y5, hblk⟩ := hdo.blk
            have ec0 := (cell_of_seven hblk).1
            have ed0 := (cell_of_seven hde.blk).1
            have hdx := hde.xs
            rw [hbx] at ed0 hdx xld
            have HX : Hid (wr.cell? ⟨bc, 0, none⟩ = some (.slice (some ⟨gc, 0, none⟩) (runL (newP 9000) (itsL D)).x.length 9000) ∧ wr.ownsRow 0 100 1 (.slice (some ⟨gc, 0, none⟩) (runL (newP 9000) (itsL D)).x.length 9000) (runL (newP 9000) (itsL D)).x.length (byteCells (runL (newP 9000) (itsL D)).x) ∧ wr.cell? ⟨bd, 0, none⟩ = some (.slice (some ⟨gd, 0, none⟩) (runL (newP 9000) (itsL D)).x.length 9000) ∧ wr.ownsRow 0 100 1 (.slice (some ⟨gd, 0, none⟩) (runL (newP 9000) (itsL D)).x.length 9000) (runL (newP 9000) (itsL D)).x.length (byteCells (runL (newP 9000) (itsL D)).x) ∧ (runL (newP 9000) (itsL D)).x.length = 9000) := ⟨ec0, hdo.xs, ed0, hdx, xld⟩
            generalize (runL (newP 9000) (itsL D)).x = X at *
            clear hde okd mkd xld hbx hdo hblk ec0 ed0 hdx hld hFw hfr hj hjn ejl
            go_wp2_with fail
            refine wp_region_noPanic (wp_region_held_drew (S := fun W => Fr (fun _ => False) wr W) (by kernel_rfl) (Fr.drew (Fr.refl _ _)) (fun hHeld => ?_))
            refine wpAnyH_take (i := 0) (oi := _) (v := ?vv0) rfl (by kernel_rfl) (by kernel_rfl) (by kernel_rfl) (fun _ _ _ h => h) (Or.inl ⟨by kernel_rfl, ?hy0⟩) (by assumption) ?_
            case hy0 => (intro w hSw; (try dsimp only at hSw); go_simp; all_goals (with_reducible rfl))
            (try simp only [Act.put, List.setIfInBounds_toArray, List.set_cons_zero, List.set_cons_succ])
            refine wpAnyH_take (i := 1) (oi := _) (v := ?vv1) rfl (by kernel_rfl) (by kernel_rfl) (by kernel_rfl) (fun _ _ _ h => h) (Or.inl ⟨by kernel_rfl, ?hy1⟩) (by assumption) ?_
            case hy1 => (intro w hSw; (try dsimp only at hSw); go_simp; all_goals (with_reducible rfl))
            (try simp only [Act.put, List.setIfInBounds_toArray, List.set_cons_zero, List.set_cons_succ])
            refine wpAnyH_take (i := 2) (oi := _) (v := ?vv2) rfl (by kernel_rfl) (by kernel_rfl) (by kernel_rfl) (fun _ _ _ h => h) (Or.inl ⟨by kernel_rfl, ?hy2⟩) (by assumption) ?_
            case hy2 => (intro w hSw; (try dsimp only at hSw); go_simp; all_goals (with_reducible rfl))
            (try simp only [Act.put, List.setIfInBounds_toArray, List.set_cons_zero, List.set_cons_succ])
            refine wpAnyH_take (i := 4) (oi := _) (v := ?vv4) rfl (by kernel_rfl) (by kernel_rfl) (by kernel_rfl) (fun _ _ _ h => h) (Or.inl ⟨by kernel_rfl, ?hy4⟩) (by assumption) ?_
            case hy4 => (intro w hSw; (try dsimp only at hSw); go_simp; all_goals (with_reducible rfl))
            (try simp only [Act.put, List.setIfInBounds_toArray, List.set_cons_zero, List.set_cons_succ])
            refine wpAnyH_take (i := 5) (oi := _) (v := ?vv5) rfl (by kernel_rfl) (by kernel_rfl) (by kernel_rfl) (fun _ _ _ h => h) (Or.inl ⟨by kernel_rfl, ?hy5⟩) (by assumption) ?_
            case hy5 => (intro w hSw; (try dsimp only at hSw); go_simp; all_goals (with_reducible rfl))
            (try simp only [Act.put, List.setIfInBounds_toArray, List.set_cons_zero, List.set_cons_succ])
            refine wpAnyH_take (i := 6) (oi := _) (v := ?vv6) rfl (by kernel_rfl) (by kernel_rfl) (by kernel_rfl) (fun _ _ _ h => h) (Or.inl ⟨by kernel_rfl, ?hy6⟩) (by assumption) ?_
            case hy6 => (intro w hSw; (try dsimp only at hSw); go_simp; all_goals (with_reducible rfl))
            (try simp only [Act.put, List.setIfInBounds_toArray, List.set_cons_zero, List.set_cons_succ])
            refine wpAnyH_ready (rs := [3]) (by kernel_rfl) (by simp) ?_
            refine AllReadyH.cons (o := _) rfl (fun K hK => ?_) AllReadyH.nil
            go_simp
            refine (states_at wr.drew bc gc 9000 X (by rw [HX.out.2.2.2.2]; omega) (by rw [HX.out.2.2.2.2]; omega) HX.out.1 HX.out.2.1).mono ?_
            rintro e w6 ⟨s1, rfl, hs1, fs1, ls1⟩
            have F6 : Fr (fun _ => False) wr w6 := Fr.trans (Fr.drew (Fr.refl _ wr)) fs1 (fun _ _ h => h)
            have H6 : Hid (w6.ownsRow 0 5 1 (.slice (some ⟨s1, 0, none⟩) X.length X.length) X.length (byteCells X)) := hs1
            have HF6 : Hid (Fr (fun _ => False) wr w6) := F6
            clear hs1 fs1 ls1
            go_simp
            refine hK.out _ _ F6 (fun hHeld => ?_)
            clear hK K
            (try simp only [Act.put, List.setIfInBounds_toArray, List.set_cons_zero, List.set_cons_succ])
            refine wpAnyH_ready (rs := [7]) (by kernel_rfl) (by simp) ?_
            refine AllReadyH.cons (o := _) rfl (fun K hK => ?_) AllReadyH.nil
            go_simp
            refine (states_at _ bd gd 9000 X (by rw [HX.out.2.2.2.2]; omega) (by rw [HX.out.2.2.2.2]; omega) (HF6.out.cell HX.out.2.2.1 (fun h => h)) (row_kept HX.out.2.2.2.1 HF6.out (fun _ _ h => h))).mono ?_
            rintro e w7 ⟨s2, rfl, hs2, fs2, ls2⟩
            have F7 : Fr (fun _ => False) wr w7 := Fr.trans HF6.out fs2 (fun _ _ h => h)
            have H7 : Hid (w7.ownsRow 0 5 1 (.slice (some ⟨s2, 0, none⟩) X.length X.length) X.length (byteCells X)) := hs2
            have H67 : Hid (w7.ownsRow 0 5 1 (.slice (some ⟨s1, 0, none⟩) X.length X.length) X.length (byteCells X)) := row_kept H6.out fs2 (fun _ _ h => h)
            have HF7 : Hid (Fr (fun _ => False) wr w7) := F7
            clear hs2 fs2 ls2
            go_simp
            refine hK.out _ _ F7 (fun hHeld => ?_)
            clear hK K
            (try simp only [Act.put, List.setIfInBounds_toArray, List.set_cons_zero, List.set_cons_succ])
            refine wpAnyH_ready (rs := [8]) (by kernel_rfl) (by simp) ?_
            refine AllReadyH.cons (o := _) rfl (fun K hK => ?_) AllReadyH.nil
            go_simp
            refine (eq_any _ _ X X w7 (SeenAt.of_row H67.out (by rw [HX.out.2.2.2.2]; omega)) (SeenAt.of_row H7.out (by rw [HX.out.2.2.2.2]; omega))).mono ?_
            rintro e w8 ⟨rfl, qq, rfl⟩
            have F8 : Fr (fun _ => False) wr (w7.drewN qq) := HF7.out.drewN qq
            have HF8 : Hid (Fr (fun _ => False) wr (w7.drewN qq)) := F8
            have hXX : decide (X = X) = true := decide_eq_true rfl
            rw [hXX]
            go_simp
            refine hK.out _ _ F8 (fun hHeld => ?_)
            clear hK K
            (try simp only [Act.put, List.setIfInBounds_toArray, List.set_cons_zero, List.set_cons_succ])
            refine wpAnyH_take (i := 9) (oi := _) (v := ?vv9) rfl (by kernel_rfl) (by kernel_rfl) (by kernel_rfl) (fun _ _ _ h => h) (Or.inl ⟨by kernel_rfl, ?hy9⟩) (by assumption) ?_
            case hy9 => (intro w hSw; (try dsimp only at hSw); go_simp; all_goals (with_reducible rfl))
            (try simp only [Act.put, List.setIfInBounds_toArray, List.set_cons_zero, List.set_cons_succ])
            refine wpAnyH_ready (rs := [10]) (by kernel_rfl) (by simp) ?_
            refine AllReadyH.cons (o := _) rfl (fun K hK => ?_) AllReadyH.nil
            go_simp
            refine (wakes5_any _ (HR.out.kept (Fr.trans HFw.out.1 HF8.out (fun _ _ h => h)) (fun h => h))).mono ?_
            rintro e w9 ⟨rfl, f9⟩
            have F9 : Fr (fun _ => False) wr w9 := Fr.trans HF8.out f9 (fun _ _ h => h)
            have HZ : Hid (Fr (fun _ => False) w w9) := Fr.trans HFw.out.1 F9 (fun _ _ h => h)
            clear f9
            go_simp
            refine hK.out _ _ F9 (fun hHeld => ?_)
            clear hK K
            (try simp only [Act.put, List.setIfInBounds_toArray, List.set_cons_zero, List.set_cons_succ])
            refine wpAnyH_take (i := 11) (oi := _) (v := ?vv11) rfl (by kernel_rfl) (by kernel_rfl) (by kernel_rfl) (fun _ _ _ h => h) (Or.inl ⟨by kernel_rfl, ?hy11⟩) (by assumption) ?_
            case hy11 => (intro w hSw; (try dsimp only at hSw); go_simp; all_goals (with_reducible rfl))
            (try simp only [Act.put, List.setIfInBounds_toArray, List.set_cons_zero, List.set_cons_succ])
            refine wpAnyH_take (i := 12) (oi := _) (v := ?vv12) rfl (by kernel_rfl) (by kernel_rfl) (by kernel_rfl) (fun _ _ _ h => h) (Or.inl ⟨by kernel_rfl, ?hy12⟩) (by assumption) ?_
            case hy12 => (intro w hSw; (try dsimp only at hSw); go_simp; all_goals (with_reducible rfl))
            (try simp only [Act.put, List.setIfInBounds_toArray, List.set_cons_zero, List.set_cons_succ])
            refine wpAnyH_done (by kernel_rfl) ?_ _
            refine NoPanic.normal ?_
            simp only [List.getElem_toArray, List.getElem_cons_succ, List.getElem_cons_zero, List.setIfInBounds_toArray, List.set_cons_zero, List.set_cons_succ]
            go_wp2_with fail
            go_ret
            exact ⟨by simp, HZ.out⟩
      · have hdec1 : decide (i < n) = false := decide_eq_false hin1
        clear hin1
        have hl2 : (dn I i).length ≤ 200 := Nat.le_trans (dn_len I i) hi2
        have hgd := dn_good I i
        have hcs := hbk.cs
        have hrow := hbk.row
        have hnew := hbk.new
        clear hbk hi hi2 hin
        generalize dn I i = D at *
        have hln := itsL_len D hgd
        have HC : Hid (CS w wr 9000 bc gc g c (runL (newP 9000) (itsL D)) (38 * i) ∧ wr.ownsRow 0 48 5 u5 D.length (itCells D) ∧ (∀ k, u5.ownBlock = some k → w.heap.size < k)) := ⟨hcs, hrow, hnew⟩
        have HD : Hid (D.length ≤ 200 ∧ (∀ it ∈ D, it.good) ∧ (itsL D).length ≤ 38 * D.length) := ⟨hl2, hgd, hln⟩
        clear hl2 hgd hcs hrow hnew hln
        go_wp2_with fail
        refine (flush_any _ bc gc 9000 g c _ HC.out.1.co HC.out.1.ok).mono ?_
        rintro e w2 ⟨g2, m2, c2, rfl, hse, hdo, hst2, hg21, hg22⟩
        have hfresh := CStep.fresh HC.out.1.fr hst2 HC.out.1.new
        have hrow2 := row_kept HC.out.2.1 hst2.fr (row_apart HC.out.1.co HC.out.2.1)
        have HF2 : Hid (Fr (fun _ => False) w w2) := hfresh.1
        have HSe : Hid (SeenAt w2 (.slice (some ⟨g2, 1, none⟩) m2 c2) (codedB 9000 (itsL D))) := hse
        have HDo : Hid (DoAt w2 bc gc 9000 (runL (newP 9000) (itsL D)).x) := hdo
        have HRw : Hid (w2.ownsRow 0 48 5 u5 D.length (itCells D)) := hrow2
        have HCx : Hid (w.heap.size ≤ bc ∧ w.heap.size ≤ gc) := ⟨HC.out.1.new.1, HC.out.1.new.2.1⟩
        clear hse hdo hst2 hg21 hg22 hfresh hrow2 HC
        go_wp2_with fail
        refine (newDecoder_any _ _ (codedB 9000 (itsL D)) 9000 (by omega) (by omega) HSe.out (.inr ⟨_, _, _, rfl⟩) (codedB_lt (by omega) (by omega) (by have := HD.out; omega))).mono ?_
        rintro e w3 ⟨bd, gd, vb, rfl, hde, f3, l4, l5, l6⟩
        have hrow3 := row_kept HRw.out f3 (fun _ _ h => h)
        have hdo3 := HDo.out.kept f3 (fun h => h) (fun h => h)
        have hz2 := HF2.out.size
        have HF3 : Hid (Fr (fun _ => False) w w3) := Fr.trans HF2.out f3 (fun _ _ h => h)
        have hrlt : ∀ k, u5.ownBlock = some k → k < w2.heap.size := fun k e => (HRw.out.lt k e).2
        obtain ⟨ao2, cap2, rfl, hit, hown⟩ := items_of_row hrow3 HD.out.1
        have HIt : Hid (ItemsAt w3 ao2 D.length (fun j => D.getD j default)) := hit
        have HOw : Hid (∀ b off, ao2 = some ⟨b, off, none⟩ → b < w2.heap.size) := fun b off e => hrlt b (hown b off e)
        have HDe : Hid (DeAt w3 bd gd 9000 vb (codedB 9000 (itsL D)) (decL 9000 (itsL D) (itsL (D.take 0)).length)) := hde
        have HDo3 : Hid (DoAt w3 bc gc 9000 (runL (newP 9000) (itsL D)).x ∧ bc < w2.heap.size ∧ gc < w2.heap.size) := ⟨hdo3, HDo.out.lt, HDo.out.xlt⟩
        have HLd : Hid (w2.heap.size ≤ bd ∧ w2.heap.size ≤ gd ∧ w.heap.size ≤ w2.heap.size ∧ 0 < w.heap.size) := ⟨l4, l5, hz2, HR.out.lt⟩
        clear hde f3 l4 l5 l6 hrow3 hdo3 hz2 hrlt hit hown HSe HDo HRw
        go_wp2_with fail
        go_loopw [12] (fun p wr => ∃ j : Nat, j ≤ D.length ∧ p = .int .i64 (j : Int) ∧ DeAt wr bd gd 9000 vb (codedB 9000 (itsL D)) (decL 9000 (itsL D) (itsL (D.take j)).length) ∧ Fr (fun k => k = bd ∨ k = gd) w3 wr)
          (fun p _ => ((D.length : Int) - intOf p).toNat)
        case atStart => exact ⟨0, Nat.zero_le _, rfl, HDe.out, Fr.refl _ _⟩
        case round =>
          obtain ⟨j, hj, rfl, hde, hfr⟩ := hrel
          clear HDe
          obtain ⟨okd, mkd, xld⟩ := decL_ok HD.out.2.1 HD.out.1 j
          have hld := HLd.out
          have hFw : Fr (fun _ => False) w wr := Fr.trans HF3.out hfr (fun k hk h => by omega)
          have HFw : Hid (Fr (fun _ => False) w wr ∧ Fr (fun k => k = bd ∨ k = gd) w3 wr) := ⟨hFw, hfr⟩
          by_cases hjn : j < D.length
          · have hdecj : decide (j < D.length) = true := decide_eq_true hjn
            obtain ⟨ab, off, eao, hc⟩ := (HIt.out.kept hfr (fun b off e h => by have := HOw.out b off e; omega)).at_ (by omega)
            obtain ⟨c0, c1, c2, c3, c4⟩ := hc j hjn
            have k2 : IntKind.i64.wrap ((j : Int) + 1) = (j : Int) + 1 := by have := HD.out; rw [IntKind.wrap_i64]; omega
            have hidb := id_back HD.out.2.1 HD.out.1 hjn
            have hnum := num_back HD.out.2.1 HD.out.1 hjn
            have HJ : Hid (j < D.length) := hjn
            have HDe : Hid (DeAt wr bd gd 9000 vb (codedB 9000 (itsL D)) (decL 9000 (itsL D) (itsL (D.take j)).length) ∧ Eok (codedB 9000 (itsL D)) (decL 9000 (itsL D) (itsL (D.take j)).length) ∧ (decL 9000 (itsL D) (itsL (D.take j)).length).made ≤ 7600 ∧ (decL 9000 (itsL D) (itsL (D.take j)).length).x.length = 9000) := ⟨hde, okd, mkd, xld⟩
            generalize D.getD j default = it at *
            obtain ⟨idb, b, wd, v, nn⟩ := it
            dsimp only at c0 c1 c2 c3 c4 hidb hnum
            subst eao
            clear hc hde okd mkd xld hld hFw hfr hj
            cases idb
            · obtain ⟨bn, eb, hb9, hmay, n1, n2, n3⟩ := hnum rfl
              subst eb
              have hal : Fr (fun _ => False) wr (wr.alloc (.cells #[.bool false, .int .i64 (bn : Int), .int .i64 wd, .int .i64 v, .bool nn] 48)) := (Fr.refl _ _).alloc _
              have hld := HLd.out
              have hget := get_ok _ bd gd 9000 bn vb (codedB 9000 (itsL D)) _ (HDe.out.1.keptAll hal) HDe.out.2.1 (HR.out.kept (Fr.trans HFw.out.1 hal (fun _ _ h => h)) (fun h => h)) (by have := HDe.out; omega) (by rw [HDe.out.2.2.2]; exact hb9) ⟨by omega, by omega⟩ _ rfl
              obtain ⟨j1, j2, j3⟩ := join_back hmay
              rw [n1, n2, n3, j1, j2] at hget
              have hje : joinE (amountOf v nn) = 0 := by unfold joinE; rw [if_neg (by omega)]
              rw [hje] at hget
              obtain ⟨q0, q1, q2, q3, q4⟩ := five_cells (heap_alloc_new wr (.cells #[.bool false, .int .i64 (bn : Int), .int .i64 wd, .int .i64 v, .bool nn] 48))
              have HGet : Hid (Calls Tryd.prog 33 #[.pointer (some ⟨bd, 0, none⟩), .int .i64 (bn : Int)] (wr.alloc (.cells #[.bool false, .int .i64 (bn : Int), .int .i64 wd, .int .i64 v, .bool nn] 48)) fun e w' => e = .returned (.tuple #[.agg #[.int .i64 (if nn then 0 else v), .bool nn], .int .i64 0]) ∧ DeAt w' bd gd 9000 vb (codedB 9000 (itsL D)) (decL 9000 (itsL D) (itsL (D.take (j + 1))).length) ∧ DStep bd gd (wr.alloc (.cells #[.bool false, .int .i64 (bn : Int), .int .i64 wd, .int .i64 v, .bool nn] 48)) w') := hget
              have HAl : Hid (Fr (fun _ => False) wr (wr.alloc (.cells #[.bool false, .int .i64 (bn : Int), .int .i64 wd, .int .i64 v, .bool nn] 48))) := hal
              clear hidb hnum hb9 hmay n1 n2 n3 hal hld hget j1 j2 j3 hje
              go_wp2_with fail
              refine HGet.out.mono ?_
              rintro e w5 ⟨rfl, hde5, hst5⟩
              have hld := HLd.out
              have hw3 := HFw.out.2.size
              have hbdl := HDe.out.1.lt
              have hgdl := HDe.out.1.xlt
              have n5 : ¬ (wr.heap.size = bd ∨ wr.heap.size = gd) := by omega
              have r3 := hst5.cell q3 n5
              have r4 := hst5.cell q4 n5
              have HD5 : Hid (DeAt w5 bd gd 9000 vb (codedB 9000 (itsL D)) (decL 9000 (itsL D) (itsL (D.take (j + 1))).length)) := hde5
              have HF5 : Hid (Fr (fun k => k = bd ∨ k = gd) w3 w5) := Fr.trans (Fr.trans HFw.out.2 HAl.out (fun _ _ h => h.elim)) hst5 (fun _ _ h => h)
              have hvv : ((v : Int) != v) = false := by simp
              clear hde5 hst5 hld hw3 hbdl hgdl n5
              cases nn
              · simp only [Bool.false_eq_true, if_false]
                have t3 := Fr.cell (Fr.alloc (Fr.refl (fun _ => False) w5) (.cells #[.int .i64 v, .bool false] 46)) r3 (fun h => h)
                have t4 := Fr.cell (Fr.alloc (Fr.refl (fun _ => False) w5) (.cells #[.int .i64 v, .bool false] 46)) r4 (fun h => h)
                go_wp2_with fail
                go_roundw
                case rel => exact ⟨j + 1, by have := HJ.out; omega, by push_cast; rfl, HD5.out.keptAll ((Fr.refl _ _).alloc _), Fr.alloc HF5.out _⟩
                case measure => have := HJ.out; simp [intOf]; omega
              · simp only [if_true]
                have t3 := Fr.cell (Fr.alloc (Fr.refl (fun _ => False) w5) (.cells #[.int .i64 0, .bool true] 46)) r3 (fun h => h)
                have t4 := Fr.cell (Fr.alloc (Fr.refl (fun _ => False) w5) (.cells #[.int .i64 0, .bool true] 46)) r4 (fun h => h)
                go_wp2_with fail
                go_roundw
                case rel => exact ⟨j + 1, by have := HJ.out; omega, by push_cast; rfl, HD5.out.keptAll ((Fr.refl _ _).alloc _), Fr.alloc HF5.out _⟩
                case measure => have := HJ.out; simp [intOf]; omega
            · obtain ⟨bn, wn, vn, eb, ew, ev, hw12, hb9, n1, n2⟩ := hidb rfl
              subst eb; subst ew; subst ev
              have hal : Fr (fun _ => False) wr (wr.alloc (.cells #[.bool true, .int .i64 (bn : Int), .int .i64 (wn : Int), .int .i64 (vn : Int), .bool nn] 48)) := (Fr.refl _ _).alloc _
              have hget := getID_ok _ bd gd 9000 bn wn vb (codedB 9000 (itsL D)) _ (HDe.out.1.keptAll hal) HDe.out.2.1 (by have := HDe.out; omega) hw12 (by rw [HDe.out.2.2.2]; exact hb9)
              rw [n1, n2] at hget
              obtain ⟨q0, q1, q2, q3, q4⟩ := five_cells (heap_alloc_new wr (.cells #[.bool true, .int .i64 (bn : Int), .int .i64 (wn : Int), .int .i64 (vn : Int), .bool nn] 48))
              have HGet : Hid (Calls Tryd.prog 32 #[.pointer (some ⟨bd, 0, none⟩), .int .i64 (bn : Int), .int .i64 (wn : Int)] (wr.alloc (.cells #[.bool true, .int .i64 (bn : Int), .int .i64 (wn : Int), .int .i64 (vn : Int), .bool nn] 48)) fun e w' => e = .returned (.tuple #[.int .i64 (vn : Int), .int .i64 0]) ∧ DeAt w' bd gd 9000 vb (codedB 9000 (itsL D)) (decL 9000 (itsL D) (itsL (D.take (j + 1))).length) ∧ DStep bd gd (wr.alloc (.cells #[.bool true, .int .i64 (bn : Int), .int .i64 (wn : Int), .int .i64 (vn : Int), .bool nn] 48)) w') := hget
              have HAl : Hid (Fr (fun _ => False) wr (wr.alloc (.cells #[.bool true, .int .i64 (bn : Int), .int .i64 (wn : Int), .int .i64 (vn : Int), .bool nn] 48))) := hal
              clear hidb hnum hw12 hb9 n1 n2 hal hget
              go_wp2_with fail
              refine HGet.out.mono ?_
              rintro e w5 ⟨rfl, hde5, hst5⟩
              have hbdl := HDe.out.1.lt
              have hgdl := HDe.out.1.xlt
              have n5 : ¬ (wr.heap.size = bd ∨ wr.heap.size = gd) := by omega
              have r3 := hst5.cell q3 n5
              have HD5 : Hid (DeAt w5 bd gd 9000 vb (codedB 9000 (itsL D)) (decL 9000 (itsL D) (itsL (D.take (j + 1))).length)) := hde5
              have HF5 : Hid (Fr (fun k => k = bd ∨ k = gd) w3 w5) := Fr.trans (Fr.trans HFw.out.2 HAl.out (fun _ _ h => h.elim)) hst5 (fun _ _ h => h)
              have hvv : ((vn : Int) != (vn : Int)) = false := by simp
              clear hde5 hst5 hbdl hgdl n5
              go_wp2_with fail
              go_roundw
              case rel => exact ⟨j + 1, by have := HJ.out; omega, by push_cast; rfl, HD5.out, HF5.out⟩
              case measure => have := HJ.out; simp [intOf]; omega
          · have hdecj : decide (j < D.length) = false := decide_eq_false hjn
            have ejl : D.take j = D := List.take_of_length_le (by omega)
            rw [ejl] at hde okd xld
            have hbx := (back_list (n := 9000) (by omega) (by omega) (itsL_bit D) (by have := HD.out; omega) (itsL D).length (Nat.le_refl _)).1
            rw [List.take_length] at hbx
            have hdo := HDo3.out.1.kept hfr (by have := HDo3.out; omega) (by have := HDo3.out; omega)
            obtain ⟨y1, y2, y3, y4, y5, hblk⟩ := hdo.blk
            have ec0 := (cell_of_seven hblk).1
            have ed0 := (cell_of_seven hde.blk).1
            have hdx := hde.xs
            rw [hbx] at ed0 hdx xld
            have HX : Hid (wr.cell? ⟨bc, 0, none⟩ = some (.slice (some ⟨gc, 0, none⟩) (runL (newP 9000) (itsL D)).x.length 9000) ∧ wr.ownsRow 0 100 1 (.slice (some ⟨gc, 0, none⟩) (runL (newP 9000) (itsL D)).x.length 9000) (runL (newP 9000) (itsL D)).x.length (byteCells (runL (newP 9000) (itsL D)).x) ∧ wr.cell? ⟨bd, 0, none⟩ = some (.slice (some ⟨gd, 0, none⟩) (runL (newP 9000) (itsL D)).x.length 9000) ∧ wr.ownsRow 0 100 1 (.slice (some ⟨gd, 0, none⟩) (runL (newP 9000) (itsL D)).x.length 9000) (runL (newP 9000) (itsL D)).x.length (byteCells (runL (newP 9000) (itsL D)).x) ∧ (runL (newP 9000) (itsL D)).x.length = 9000) := ⟨ec0, hdo.xs, ed0, hdx, xld⟩
            generalize (runL (newP 9000) (itsL D)).x = X at *
            clear hde okd mkd xld hbx hdo hblk ec0 ed0 hdx hld hFw hfr hj hjn ejl
            go_wp2_with fail
            refine wp_region_noPanic (wp_region_held_drew (S := fun W => Fr (fun _ => False) wr W) (by kernel_rfl) (Fr.drew (Fr.refl _ _)) (fun hHeld => ?_))
            refine wpAnyH_take (i := 0) (oi := _) (v := ?vb0) rfl (by kernel_rfl) (by kernel_rfl) (by kernel_rfl) (fun _ _ _ h => h) (Or.inl ⟨by kernel_rfl, ?hb0⟩) (by assumption) ?_
            case hb0 => (intro w hSw; (try dsimp only at hSw); go_simp; all_goals (with_reducible rfl))
            (try simp only [Act.put, List.setIfInBounds_toArray, List.set_cons_zero, List.set_cons_succ])
            refine wpAnyH_take (i := 1) (oi := _) (v := ?vb1) rfl (by kernel_rfl) (by kernel_rfl) (by kernel_rfl) (fun _ _ _ h => h) (Or.inl ⟨by kernel_rfl, ?hb1⟩) (by assumption) ?_
            case hb1 => (intro w hSw; (try dsimp only at hSw); go_simp; all_goals (with_reducible rfl))
            (try simp only [Act.put, List.setIfInBounds_toArray, List.set_cons_zero, List.set_cons_succ])
            refine wpAnyH_take (i := 2) (oi := _) (v := ?vb2) rfl (by kernel_rfl) (by kernel_rfl) (by kernel_rfl) (fun _ _ _ h => h) (Or.inl ⟨by kernel_rfl, ?hb2⟩) (by assumption) ?_
            case hb2 => (intro w hSw; (try dsimp only at hSw); go_simp; all_goals (with_reducible rfl))
            (try simp only [Act.put, List.setIfInBounds_toArray, List.set_cons_zero, List.set_cons_succ])
            refine wpAnyH_take (i := 4) (oi := _) (v := ?vb4) rfl (by kernel_rfl) (by kernel_rfl) (by kernel_rfl) (fun _ _ _ h => h) (Or.inl ⟨by kernel_rfl, ?hb4⟩) (by assumption) ?_
            case hb4 => (intro w hSw; (try dsimp only at hSw); go_simp; all_goals (with_reducible rfl))
            (try simp only [Act.put, List.setIfInBounds_toArray, List.set_cons_zero, List.set_cons_succ])
            refine wpAnyH_take (i := 5) (oi := _) (v := ?vb5) rfl (by kernel_rfl) (by kernel_rfl) (by kernel_rfl) (fun _ _ _ h => h) (Or.inl ⟨by kernel_rfl, ?hb5⟩) (by assumption) ?_
            case hb5 => (intro w hSw; (try dsimp only at hSw); go_simp; all_goals (with_reducible rfl))
            (try simp only [Act.put, List.setIfInBounds_toArray, List.set_cons_zero, List.set_cons_succ])
            refine wpAnyH_take (i := 6) (oi := _) (v := ?vb6) rfl (by kernel_rfl) (by kernel_rfl) (by kernel_rfl) (fun _ _ _ h => h) (Or.inl ⟨by kernel_rfl, ?hb6⟩) (by assumption) ?_
            case hb6 => (intro w hSw; (try dsimp only at hSw); go_simp; all_goals (with_reducible rfl))
            (try simp only [Act.put, List.setIfInBounds_toArray, List.set_cons_zero, List.set_cons_succ])
            refine wpAnyH_ready (rs := [3]) (by kernel_rfl) (by simp) ?_
            refine AllReadyH.cons (o := _) rfl (fun K hK => ?_) AllReadyH.nil
            go_simp
            refine (states_at wr.drew bc gc 9000 X (by rw [HX.out.2.2.2.2]; omega) (by rw [HX.out.2.2.2.2]; omega) HX.out.1 HX.out.2.1).mono ?_
            rintro e w6 ⟨s1, rfl, hs1, fs1, ls1⟩
            have F6 : Fr (fun _ => False) wr w6 := Fr.trans (Fr.drew (Fr.refl _ wr)) fs1 (fun _ _ h => h)
            have H6 : Hid (w6.ownsRow 0 5 1 (.slice (some ⟨s1, 0, none⟩) X.length X.length) X.length (byteCells X)) := hs1
            have HF6 : Hid (Fr (fun _ => False) wr w6) := F6
            clear hs1 fs1 ls1
            go_simp
            refine hK.out _ _ F6 (fun hHeld => ?_)
            clear hK K
            (try simp only [Act.put, List.setIfInBounds_toArray, List.set_cons_zero, List.set_cons_succ])
            refine wpAnyH_ready (rs := [7]) (by kernel_rfl) (by simp) ?_
            refine AllReadyH.cons (o := _) rfl (fun K hK => ?_) AllReadyH.nil
            go_simp
            refine (states_at _ bd gd 9000 X (by rw [HX.out.2.2.2.2]; omega) (by rw [HX.out.2.2.2.2]; omega) (HF6.out.cell HX.out.2.2.1 (fun h => h)) (row_kept HX.out.2.2.2.1 HF6.out (fun _ _ h => h))).mono ?_
            rintro e w7 ⟨s2, rfl, hs2, fs2, ls2⟩
            have F7 : Fr (fun _ => False) wr w7 := Fr.trans HF6.out fs2 (fun _ _ h => h)
            have H7 : Hid (w7.ownsRow 0 5 1 (.slice (some ⟨s2, 0, none⟩) X.length X.length) X.length (byteCells X)) := hs2
            have H67 : Hid (w7.ownsRow 0 5 1 (.slice (some ⟨s1, 0, none⟩) X.length X.length) X.length (byteCells X)) := row_kept H6.out fs2 (fun _ _ h => h)
            have HF7 : Hid (Fr (fun _ => False) wr w7) := F7
            clear hs2 fs2 ls2
            go_simp
            refine hK.out _ _ F7 (fun hHeld => ?_)
            clear hK K
            (try simp only [Act.put, List.setIfInBounds_toArray, List.set_cons_zero, List.set_cons_succ])
            refine wpAnyH_ready (rs := [8]) (by kernel_rfl) (by simp) ?_
            refine AllReadyH.cons (o := _) rfl (fun K hK => ?_) AllReadyH.nil
            go_simp
            refine (eq_any _ _ X X w7 (SeenAt.of_row H67.out (by rw [HX.out.2.2.2.2]; omega)) (SeenAt.of_row H7.out (by rw [HX.out.2.2.2.2]; omega))).mono ?_
            rintro e w8 ⟨rfl, qq, rfl⟩
            have F8 : Fr (fun _ => False) wr (w7.drewN qq) := HF7.out.drewN qq
            have HF8 : Hid (Fr (fun _ => False) wr (w7.drewN qq)) := F8
            have hXX : decide (X = X) = true := decide_eq_true rfl
            rw [hXX]
            go_simp
            refine hK.out _ _ F8 (fun hHeld => ?_)
            clear hK K
            (try simp only [Act.put, List.setIfInBounds_toArray, List.set_cons_zero, List.set_cons_succ])
            refine wpAnyH_take (i := 9) (oi := _) (v := ?vb9) rfl (by kernel_rfl) (by kernel_rfl) (by kernel_rfl) (fun _ _ _ h => h) (Or.inl ⟨by kernel_rfl, ?hb9⟩) (by assumption) ?_
            case hb9 => (intro w hSw; (try dsimp only at hSw); go_simp; all_goals (with_reducible rfl))
            (try simp only [Act.put, List.setIfInBounds_toArray, List.set_cons_zero, List.set_cons_succ])
            refine wpAnyH_ready (rs := [10]) (by kernel_rfl) (by simp) ?_
            refine AllReadyH.cons (o := _) rfl (fun K hK => ?_) AllReadyH.nil
            go_simp
            refine (wakes5_any _ (HR.out.kept (Fr.trans HFw.out.1 HF8.out (fun _ _ h => h)) (fun h => h))).mono ?_
            rintro e w9 ⟨rfl, f9⟩
            have F9 : Fr (fun _ => False) wr w9 := Fr.trans HF8.out f9 (fun _ _ h => h)
            have HZ : Hid (Fr (fun _ => False) w w9) := Fr.trans HFw.out.1 F9 (fun _ _ h => h)
            clear f9
            go_simp
            refine hK.out _ _ F9 (fun hHeld => ?_)
            clear hK K
            (try simp only [Act.put, List.setIfInBounds_toArray, List.set_cons_zero, List.set_cons_succ])
            refine wpAnyH_take (i := 11) (oi := _) (v := ?vb11) rfl (by kernel_rfl) (by kernel_rfl) (by kernel_rfl) (fun _ _ _ h => h) (Or.inl ⟨by kernel_rfl, ?hb11⟩) (by assumption) ?_
            case hb11 => (intro w hSw; (try dsimp only at hSw); go_simp; all_goals (with_reducible rfl))
            (try simp only [Act.put, List.setIfInBounds_toArray, List.set_cons_zero, List.set_cons_succ])
            refine wpAnyH_take (i := 12) (oi := _) (v := ?vb12) rfl (by kernel_rfl) (by kernel_rfl) (by kernel_rfl) (fun _ _ _ h => h) (Or.inl ⟨by kernel_rfl, ?hb12⟩) (by assumption) ?_
            case hb12 => (intro w hSw; (try dsimp only at hSw); go_simp; all_goals (with_reducible rfl))
            (try simp only [Act.put, List.setIfInBounds_toArray, List.set_cons_zero, List.set_cons_succ])
            refine wpAnyH_done (by kernel_rfl) ?_ _
            refine NoPanic.normal ?_
            simp only [List.getElem_toArray, List.getElem_cons_succ, List.getElem_cons_zero, List.setIfInBounds_toArray, List.set_cons_zero, List.set_cons_succ]
            go_wp2_with fail
            go_ret
            exact ⟨by simp, HZ.out⟩

end Go.Proofs.YtllhekkclhcdbaaDoor
