/- 'WholeMixed': the law. -/
import Derived.Test.YtllhekkclhcdbaaDoorKMx5
import Derived.Deep.Cut
namespace Go.Proofs.YtllhekkclhcdbaaDoor
open Go.RowKit

/-- What the loop holds: both coders over the same decisions. -/
structure MxI (w0 wr : World) (bc gc g c br gt ct gs gz q d : Nat) (I : Nat → It) (i : Nat) : Prop where
  cs : CS w0 wr 9000 bc gc g c (runL (newP 9000) (itsL (dn I i))) (38 * i)
  pr : Pr w0 wr bc gc 9000 g c br gt ct gs gz 9000 q d (runL (newP 9000) (itsL (dn I i)))

theorem MxI.later {w0 wr W : World} {bc gc g c br gt ct gs gz q d : Nat} {I : Nat → It} {i : Nat} (h : MxI w0 wr bc gc g c br gt ct gs gz q d I i) (f : Fr (fun _ => False) wr W) : MxI w0 W bc gc g c br gt ct gs gz q d I i := ⟨h.cs.later f, h.pr.kept f⟩
theorem dn_good1 {I : Nat → It} {i : Nat} (h : (I i).good) : runL (runL (newP 9000) (itsL (dn I i))) (I i).dec = runL (newP 9000) (itsL (dn I (i + 1))) := by
  have ed : dn I (i + 1) = dn I i ++ [I i] := by
    show (if (I i).good then dn I i ++ [I i] else dn I i) = _
    rw [if_pos h]
  rw [← runL_cat, ← itsL_snoc, ed]
theorem MxI.bad {w0 wr : World} {bc gc g c br gt ct gs gz q d : Nat} {I : Nat → It} {i : Nat} (h : MxI w0 wr bc gc g c br gt ct gs gz q d I i) (hg : ¬ (I i).good) : MxI w0 wr bc gc g c br gt ct gs gz q d I (i + 1) := by
  have ed : dn I (i + 1) = dn I i := by
    show (if (I i).good then dn I i ++ [I i] else dn I i) = _
    rw [if_neg hg]
  refine ⟨?_, ?_⟩
  · rw [ed]
    exact ⟨h.cs.co, h.cs.ok, by have := h.cs.made; omega, h.cs.xl, h.cs.new, h.cs.fr, h.cs.rows⟩
  · rw [ed]; exact h.pr
/-- Both coders went on. -/
theorem MxI.good {w0 wr w1 w2 w3 : World} {bc gc g c br gt ct gs gz q d g' c' q' d' : Nat} {I : Nat → It} {i : Nat} (h : MxI w0 wr bc gc g c br gt ct gs gz q d I i) (h0 : RowsAt w0) (hi : i < 200) (hg : (I i).good)
    (hc : CoAt w1 bc gc 9000 g' c' (runL (runL (newP 9000) (itsL (dn I i))) (I i).dec)) (hs : CStep bc gc g g' wr w1) (f12 : Fr (fun _ => False) w1 w2) (hr : ReAt w3 br gt ct gs gz 9000 q' d' (runL (runL (newP 9000) (itsL (dn I i))) (I i).dec) false) (ht : RStep br gs gz q q' w2 w3) :
    MxI w0 w3 bc gc g' c' br gt ct gs gz q' d' I (i + 1) := by
  have hst := h.cs.step h0 (k := 38) (It.dec_len hg) (by omega) hc hs
  obtain ⟨a1, a2, a3, a4⟩ := h.pr.step1 hs
  have big := h.pr.big
  have hp := Pr.step2 (hc.kept f12 (fun h => h) (fun h => h) (fun h => h)) (a2.trans f12 (fun _ _ h => h)) ⟨big.1, big.2.1, a3, big.2.2.2⟩ a4 hr ht
  rw [dn_good1 hg] at hst hp
  refine ⟨⟨hp.co, hst.ok, by have := hst.made; omega, hst.xl, hst.new, hp.fr, h0.kept hp.fr (fun h => h)⟩, hp⟩

set_option maxRecDepth 100000 in
set_option maxHeartbeats 8000000 in
theorem mixed5_any (w : World) (ao : Option Addr) (n cap : Nat) (I : Nat → It) (h : ItemsAt w ao n I) (hbd : ∀ j, j < n → -9223372036854775808 ≤ (I j).b ∧ (I j).b ≤ 9223372036854775807) (hr : RowsAt w) :
    Calls Tryd.prog 5 #[.agg #[.slice ao n cap]] w fun e w' => e = .returned (.bool true) ∧ Fr (fun _ => False) w w' := by
  have HA : Hid (Fr (fun _ => False) w (w.alloc (.cells #[.slice ao n cap] 39))) := (Fr.refl _ _).alloc _
  have HL : Hid (∀ w', Fr (fun _ => False) w w' → ItemsAt w' ao n I) := fun w' f => h.kept f (fun _ _ _ h => h)
  have HBd : Hid (∀ j, j < n → -9223372036854775808 ≤ (I j).b ∧ (I j).b ≤ 9223372036854775807) := hbd
  have HR : Hid (∀ w', Fr (fun _ => False) w w' → RowsAt w') := fun w' f => hr.kept f (fun h => h)
  have HBx : Hid (∀ w', Fr (fun _ => False) (w.alloc (.cells #[.slice ao n cap] 39)) w' → w'.cell? ⟨w.heap.size, 0, none⟩ = some (.slice ao n cap)) := fun w' f => f.cell (cell_new1 w (.slice ao n cap) 39) (fun h => h)
  have hn := h.lim
  clear h hbd hr
  go_enter Tryd.func5, Tryd.ntmps5
  go_wp2_with fail
  generalize w.alloc (.cells #[.slice ao n cap] 39) = w0 at *
  refine (new_any _ 9000 (by omega) (by omega)).mono ?_
  rintro e w1 ⟨bc, gc, gb, rfl, hco, f1, l1, l2, l3⟩
  have HC1 : Hid (CoAt w1 bc gc 9000 gb 1 (newP 9000) ∧ Fr (fun _ => False) w0 w1 ∧ w0.heap.size ≤ bc ∧ w0.heap.size ≤ gc ∧ w0.heap.size ≤ gb) := ⟨hco, f1, l1, l2, l3⟩
  clear hco f1 l1 l2 l3
  go_wp2_with fail
  refine (rnew_any _ 9000 (by omega) (by omega)).mono ?_
  rintro e w2 ⟨br, gt, ct, gs, gz, gq, rfl, hre, f2, m1, m2, m3, m4, m5⟩
  have HM0 : Hid (MxI w0 w2 bc gc gb 1 br gt ct gs gz gq 1 I 0) := by
    obtain ⟨hco, f1, l1, l2, l3⟩ := HC1.out
    have hs := f1.size
    have b1 := hco.lt
    have b2 := hco.xlt
    have b3 := hco.blt
    have hc2 := hco.kept f2 (fun h => h) (fun h => h) (fun h => h)
    have f02 := f1.trans f2 (fun _ _ h => h)
    exact ⟨⟨hc2, newP_ok (by omega) (by omega), Nat.le_refl _, List.length_replicate, ⟨l1, l2, l3⟩, f02, HR.out _ (HA.out.trans f02 (fun _ _ h => h))⟩, ⟨hc2, hre, f02, ⟨l1, l2, l3, by omega, by omega, by omega, by omega⟩, ⟨⟨by omega, by omega, by omega, by omega, by omega⟩, ⟨by omega, by omega, by omega, by omega, by omega⟩, ⟨by omega, by omega, by omega, by omega, by omega⟩⟩⟩⟩
  clear hre f2 m1 m2 m3 m4 m5 HC1
  go_wp2_with fail
  go_loopg [6, 7, 8, 9] (n + 1) (fun k q7 _ _ _ wr => ∃ i : Nat, i ≤ n ∧ i ≤ 200 ∧ i + k = n + 1 ∧ q7 = .int .i64 (i : Int) ∧ ∃ g c q d, MxI w0 wr bc gc g c br gt ct gs gz q d I i)
  case atStart => exact ⟨0, Nat.zero_le _, Nat.zero_le _, by omega, rfl, gb, 1, gq, 1, HM0.out⟩
  case round =>
    obtain ⟨i, hi, hi2, hik, rfl, g, c, q, d, hmx⟩ := hrel
    clear HM0
    have HMX : Hid (MxI w0 wr bc gc g c br gt ct gs gz q d I i) := hmx
    have HFr : Hid (Fr (fun _ => False) w0 wr) := hmx.pr.fr
    clear hmx
    have hbox := HBx.out _ HFr.out
    by_cases hin : i < n ∧ i < 200
    · obtain ⟨hin1, hin2⟩ := hin
      have hdec1 : decide (i < n) = true := decide_eq_true hin1
      have hdec2 : decide ((i : Int) < 200) = true := decide_eq_true (by omega)
      obtain ⟨ab, off, eao, hc⟩ := (HL.out wr (HA.out.trans HFr.out (fun _ _ h => h))).at_ (by omega)
      obtain ⟨c0, c1, c2, c3, c4⟩ := hc i hin1
      have hb1 := HBd.out i hin1
      subst eao
      have HIt : Hid (∃ it, I i = it) := ⟨_, rfl⟩
      obtain ⟨it, eit⟩ := HIt.out
      rw [eit] at c0 c1 c2 c3 c4 hb1
      obtain ⟨idb, b, wd, v, nn⟩ := it
      dsimp only at c0 c1 c2 c3 c4 hb1
      have HEit : Hid (I i = (⟨idb, b, wd, v, nn⟩ : It)) := eit
      clear eit HIt hc
      have HK : Hid (MxI w0 (wr.alloc (.cells #[.bool idb, .int .i64 b, .int .i64 wd, .int .i64 v, .bool nn] 48)) bc gc g c br gt ct gs gz q d I i) := HMX.out.later ((Fr.refl _ _).alloc _)
      have HO5 : Hid (∀ w', Fr (fun k => k = bc ∨ k = gc ∨ k = g ∨ k = br ∨ k = gs ∨ k = gz ∨ k = q) (wr.alloc (.cells #[.bool idb, .int .i64 b, .int .i64 wd, .int .i64 v, .bool nn] 48)) w' → w'.cell? ⟨wr.heap.size, 0, none⟩ = some (.bool idb) ∧ w'.cell? ⟨wr.heap.size, 1, none⟩ = some (.int .i64 b) ∧ w'.cell? ⟨wr.heap.size, 2, none⟩ = some (.int .i64 wd) ∧ w'.cell? ⟨wr.heap.size, 3, none⟩ = some (.int .i64 v) ∧ w'.cell? ⟨wr.heap.size, 4, none⟩ = some (.bool nn)) := fun w' f => by
        have h1 := HMX.out.pr.co
        have h2 := HMX.out.pr.re.lts
        have h3 := h1.lt
        have h4 := h1.xlt
        have h5 := h1.blt
        refine cells5 ((f.block wr.heap.size (by rw [World.size_alloc]; omega) (by omega)).trans (heap_alloc_new wr (.cells #[.bool idb, .int .i64 b, .int .i64 wd, .int .i64 v, .bool nn] 48)))
      obtain ⟨o0, o1, o2, o3, o4⟩ := HO5.out _ (Fr.refl _ _)
      cases idb
      · -- a number
        have HPX : Hid (Calls Tryd.prog 23 #[.pointer (some ⟨bc, 0, none⟩), .int .i64 b, .agg #[.int .i64 v, .bool nn]] (wr.alloc (.cells #[.bool false, .int .i64 b, .int .i64 wd, .int .i64 v, .bool nn] 48)) fun e w' => e = .returned (.int .i64 (It.erN ⟨false, b, wd, v, nn⟩)) ∧ (((It.erN ⟨false, b, wd, v, nn⟩) = 0 ∧ (It.good ⟨false, b, wd, v, nn⟩) ∧ ∃ gb' cb', CoAt w' bc gc 9000 gb' cb' (runL (runL (newP 9000) (itsL (dn I i))) (It.dec ⟨false, b, wd, v, nn⟩)) ∧ CStep bc gc g gb' (wr.alloc (.cells #[.bool false, .int .i64 b, .int .i64 wd, .int .i64 v, .bool nn] 48)) w') ∨ ((It.erN ⟨false, b, wd, v, nn⟩) ≠ 0 ∧ ¬ (It.good ⟨false, b, wd, v, nn⟩) ∧ Fr (fun _ => False) (wr.alloc (.cells #[.bool false, .int .i64 b, .int .i64 wd, .int .i64 v, .bool nn] 48)) w'))) := put_ex HK.out.cs (by omega) ⟨false, b, wd, v, nn⟩ rfl hb1
        have HBB : Hid (∀ w', Calls Tryd.prog 24 #[.agg #[.bool false, .int .i64 b, .int .i64 wd, .int .i64 v, .bool nn]] w' fun e w'' => e = .returned (.int .i64 (It.erB ⟨false, b, wd, v, nn⟩)) ∧ Fr (fun _ => False) w' w'') := fun w' => badBase_any false b wd v nn w' _ rfl
        have HMY : Hid (∀ w', Calls Tryd.prog 25 #[.agg #[.int .i64 v, .bool nn]] w' fun e w'' => e = .returned (.bool (mayP v nn)) ∧ Fr (fun _ => False) w' w'') := fun w' => rmay_at w' v nn _ rfl
        go_wp2_with fail
        generalize hwa : wr.alloc (.cells #[.bool false, .int .i64 b, .int .i64 wd, .int .i64 v, .bool nn] 48) = wa at *
        clear hwa o0 o1 o2 o3 o4 c0 c1 c2 c3 c4 hbox
        refine Calls.mono HPX.out ?_
        rintro e w5 ⟨rfl, hcase⟩
        by_cases hB : 0 ≤ b ∧ b ≤ 8488
        · have eB : It.erB ⟨false, b, wd, v, nn⟩ = 0 := if_pos hB
          cases hM : mayP v nn
          · have eN : It.erN ⟨false, b, wd, v, nn⟩ = 50 := by unfold It.erN; rw [if_pos hB, if_neg (by rw [hM]; decide)]
            rw [eN] at hcase ⊢
            rcases hcase with ⟨h50, -⟩ | ⟨-, hng, hf5⟩
            · exact absurd h50 (by decide)
            have HF5 : Hid (Fr (fun _ => False) wa w5) := hf5
            have HNG : Hid (¬ (I i).good) := by rw [HEit.out]; exact hng
            clear hf5 hng
            rw [eB] at HBB
            rw [hM] at HMY
            clear eB eN hM hB
            obtain ⟨o0, o1, o2, o3, o4⟩ := HO5.out w5 (HF5.out.mono (fun _ _ h => h.elim))
            go_wp2_with fail
            refine (HBB.out _).mono ?_
            rintro e w6 ⟨rfl, hf6⟩
            have HF6 : Hid (Fr (fun _ => False) wa w6) := HF5.out.trans hf6 (fun _ _ h => h)
            clear hf6 o0 o1 o2 o3 o4
            obtain ⟨o0, o1, o2, o3, o4⟩ := HO5.out w6 (HF6.out.mono (fun _ _ h => h.elim))
            go_wp2_with fail
            refine (HMY.out _).mono ?_
            rintro e w7 ⟨rfl, hf7⟩
            have HF7 : Hid (Fr (fun _ => False) wa w7) := HF6.out.trans hf7 (fun _ _ h => h)
            clear hf7 o0 o1 o2 o3 o4
            go_wp2_with fail
            go_roundg (n - i)
            case measure => omega
            case rel => exact ⟨i + 1, by omega, by omega, by omega, by go_num, g, c, q, d, (HK.out.later HF7.out).bad HNG.out⟩
          · have eN : It.erN ⟨false, b, wd, v, nn⟩ = 0 := by unfold It.erN; rw [if_pos hB, if_pos hM]
            rw [eN] at hcase ⊢
            rcases hcase with ⟨-, hg, g', c', hc5, hs5⟩ | ⟨h50, -⟩
            rotate_left
            · exact absurd rfl h50
            have HG : Hid ((I i).good) := by rw [HEit.out]; exact hg
            have HC5 : Hid (CoAt w5 bc gc 9000 g' c' (runL (runL (newP 9000) (itsL (dn I i))) (I i).dec) ∧ CStep bc gc g g' wa w5) := by rw [HEit.out]; exact ⟨hc5, hs5⟩
            obtain ⟨bb, ebb⟩ : ∃ bb : Nat, b = bb := ⟨b.toNat, by omega⟩
            have HRP : Hid (∀ w', Fr (fun _ => False) w5 w' → Calls Tryd.prog 26 #[.pointer (some ⟨br, 0, none⟩), .int .i64 b, .agg #[.int .i64 v, .bool nn]] w' fun e w'' => e = .returned (.int .i64 0) ∧ ∃ q' d', ReAt w'' br gt ct gs gz 9000 q' d' (runL (runL (newP 9000) (itsL (dn I i))) (I i).dec) false ∧ RStep br gs gz q q' w' w'') := fun w' f => by
              obtain ⟨a1, -⟩ := HK.out.pr.step1 hs5
              have hd : (I i).dec = decs bb 512 1 (numBits v nn) := by
                rw [HEit.out, ebb]; rfl
              rw [hd, ebb]
              exact rput5_ok w' br gt ct gs gz 9000 q d _ bb v nn (a1.kept f (fun h => h) (fun h => h) (fun h => h) (fun h => h) (fun h => h)) HK.out.cs.ok (by have := HK.out.cs.made; omega) (by omega) hM
            have HF5 : Hid (Fr (fun k => k = bc ∨ k = gc ∨ k = g ∨ k = br ∨ k = gs ∨ k = gz ∨ k = q) wa w5) := hs5.fr.mono (fun k _ h => by omega)
            clear hc5 hs5 hg ebb
            rw [eB] at HBB
            rw [hM] at HMY
            clear eB eN hM hB
            obtain ⟨o0, o1, o2, o3, o4⟩ := HO5.out w5 HF5.out
            go_wp2_with fail
            refine (HBB.out _).mono ?_
            rintro e w6 ⟨rfl, hf6⟩
            have HF6 : Hid (Fr (fun _ => False) w5 w6) := hf6
            clear hf6 o0 o1 o2 o3 o4
            obtain ⟨o0, o1, o2, o3, o4⟩ := HO5.out w6 (HF5.out.trans HF6.out (fun _ _ h => h.elim))
            go_wp2_with fail
            refine (HMY.out _).mono ?_
            rintro e w7 ⟨rfl, hf7⟩
            have HF7 : Hid (Fr (fun _ => False) w5 w7) := HF6.out.trans hf7 (fun _ _ h => h)
            clear hf7 o0 o1 o2 o3 o4
            obtain ⟨o0, o1, o2, o3, o4⟩ := HO5.out w7 (HF5.out.trans HF7.out (fun _ _ h => h.elim))
            go_wp2_with fail
            refine (HRP.out _ HF7.out).mono ?_
            rintro e w8 ⟨rfl, q', d', hr8, ht8⟩
            have HM8 : Hid (MxI w0 w8 bc gc g' c' br gt ct gs gz q' d' I (i + 1)) := HK.out.good (HR.out _ HA.out) hin2 HG.out HC5.out.1 HC5.out.2 HF7.out hr8 ht8
            clear hr8 ht8 o0 o1 o2 o3 o4
            go_wp2_with fail
            go_roundg (n - i)
            case measure => omega
            case rel => exact ⟨i + 1, by omega, by omega, by omega, by go_num, g', c', q', d', HM8.out⟩
        · have eB : It.erB ⟨false, b, wd, v, nn⟩ = 51 := if_neg hB
          have eN : It.erN ⟨false, b, wd, v, nn⟩ = 51 := by unfold It.erN; rw [if_neg hB]
          rw [eN] at hcase ⊢
          rcases hcase with ⟨h50, -⟩ | ⟨-, hng, hf5⟩
          · exact absurd h50 (by decide)
          have HF5 : Hid (Fr (fun _ => False) wa w5) := hf5
          have HNG : Hid (¬ (I i).good) := by rw [HEit.out]; exact hng
          clear hf5 hng
          rw [eB] at HBB
          clear eB eN hB
          obtain ⟨o0, o1, o2, o3, o4⟩ := HO5.out w5 (HF5.out.mono (fun _ _ h => h.elim))
          go_wp2_with fail
          refine (HBB.out _).mono ?_
          rintro e w6 ⟨rfl, hf6⟩
          have HF6 : Hid (Fr (fun _ => False) wa w6) := HF5.out.trans hf6 (fun _ _ h => h)
          clear hf6 o0 o1 o2 o3 o4
          go_wp2_with fail
          go_roundg (n - i)
          case measure => omega
          case rel => exact ⟨i + 1, by omega, by omega, by omega, by go_num, g, c, q, d, (HK.out.later HF6.out).bad HNG.out⟩
      · -- an ID
        have HPX : Hid (Calls Tryd.prog 20 #[.pointer (some ⟨bc, 0, none⟩), .int .i64 b, .int .i64 wd, .int .i64 v] (wr.alloc (.cells #[.bool true, .int .i64 b, .int .i64 wd, .int .i64 v, .bool nn] 48)) fun e w' => e = .returned (.int .i64 (It.erI ⟨true, b, wd, v, nn⟩)) ∧ (((It.erI ⟨true, b, wd, v, nn⟩) = 0 ∧ (It.good ⟨true, b, wd, v, nn⟩) ∧ ∃ gb' cb', CoAt w' bc gc 9000 gb' cb' (runL (runL (newP 9000) (itsL (dn I i))) (It.dec ⟨true, b, wd, v, nn⟩)) ∧ CStep bc gc g gb' (wr.alloc (.cells #[.bool true, .int .i64 b, .int .i64 wd, .int .i64 v, .bool nn] 48)) w') ∨ ((It.erI ⟨true, b, wd, v, nn⟩) ≠ 0 ∧ ¬ (It.good ⟨true, b, wd, v, nn⟩) ∧ Fr (fun _ => False) (wr.alloc (.cells #[.bool true, .int .i64 b, .int .i64 wd, .int .i64 v, .bool nn] 48)) w'))) := putID_ex HK.out.cs (by omega) ⟨true, b, wd, v, nn⟩ rfl hb1
        have HBB : Hid (∀ w', Calls Tryd.prog 21 #[.agg #[.bool true, .int .i64 b, .int .i64 wd, .int .i64 v, .bool nn]] w' fun e w'' => e = .returned (.int .i64 (It.erI ⟨true, b, wd, v, nn⟩)) ∧ Fr (fun _ => False) w' w'') := fun w' => badID_any true b wd v nn w' _ hb1 rfl
        have HGE : Hid (It.erI ⟨true, b, wd, v, nn⟩ = 0 → (0 ≤ wd ∧ wd ≤ 12) ∧ (0 ≤ b ∧ b ≤ 9000 - ((2 ^ wd.toNat : Nat) : Int)) ∧ 0 ≤ v ∧ v < ((2 ^ wd.toNat : Nat) : Int)) := fun he => by
          replace he : (if 0 ≤ wd ∧ wd ≤ 12 then (if 0 ≤ b ∧ b ≤ 9000 - ((2 ^ wd.toNat : Nat) : Int) then (if 0 ≤ v ∧ v < ((2 ^ wd.toNat : Nat) : Int) then (0 : Int) else 50) else 51) else 52) = 0 := he
          by_cases x1 : 0 ≤ wd ∧ wd ≤ 12
          · rw [if_pos x1] at he
            by_cases x2 : 0 ≤ b ∧ b ≤ 9000 - ((2 ^ wd.toNat : Nat) : Int)
            · rw [if_pos x2] at he
              by_cases x3 : 0 ≤ v ∧ v < ((2 ^ wd.toNat : Nat) : Int)
              · exact ⟨x1, x2, x3⟩
              · rw [if_neg x3] at he; exact absurd he (by decide)
            · rw [if_neg x2] at he; exact absurd he (by decide)
          · rw [if_neg x1] at he; exact absurd he (by decide)
        go_wp2_with fail
        generalize hwa : wr.alloc (.cells #[.bool true, .int .i64 b, .int .i64 wd, .int .i64 v, .bool nn] 48) = wa at *
        clear hwa o0 o1 o2 o3 o4 c0 c1 c2 c3 c4 hbox
        refine Calls.mono HPX.out ?_
        rintro e w5 ⟨rfl, hcase⟩
        rcases hcase with ⟨hz, hg, g', c', hc5, hs5⟩ | ⟨hz, hng, hf5⟩
        · obtain ⟨x1, x2, x3⟩ := HGE.out hz
          have hp0 : (0 : Int) ≤ ((2 ^ wd.toNat : Nat) : Int) := Int.natCast_nonneg _
          have HG : Hid ((I i).good) := by rw [HEit.out]; exact hg
          have HC5 : Hid (CoAt w5 bc gc 9000 g' c' (runL (runL (newP 9000) (itsL (dn I i))) (I i).dec) ∧ CStep bc gc g g' wa w5) := by rw [HEit.out]; exact ⟨hc5, hs5⟩
          obtain ⟨bb, ebb⟩ : ∃ bb : Nat, b = bb := ⟨b.toNat, by omega⟩
          obtain ⟨ww, eww⟩ : ∃ ww : Nat, wd = ww := ⟨wd.toNat, by omega⟩
          obtain ⟨vv, evv⟩ : ∃ vv : Nat, v = vv := ⟨v.toNat, by omega⟩
          have HRP : Hid (∀ w', Fr (fun _ => False) w5 w' → Calls Tryd.prog 22 #[.pointer (some ⟨br, 0, none⟩), .int .i64 b, .int .i64 wd, .int .i64 v] w' fun e w'' => e = .returned (.int .i64 0) ∧ ∃ q' d', ReAt w'' br gt ct gs gz 9000 q' d' (runL (runL (newP 9000) (itsL (dn I i))) (I i).dec) false ∧ RStep br gs gz q q' w' w'') := fun w' f => by
            obtain ⟨a1, -⟩ := HK.out.pr.step1 hs5
            have hd : (I i).dec = decs bb (2 ^ ww) 1 (hiBits vv ww) := by
              rw [HEit.out, ebb, eww, evv]; rfl
            rw [hd, ebb, eww, evv]
            rw [eww, evv] at x3
            rw [show ((ww : Int)).toNat = ww from rfl] at x3
            exact rputID_ok w' br gt ct gs gz 9000 q d _ bb ww vv (a1.kept f (fun h => h) (fun h => h) (fun h => h) (fun h => h) (fun h => h)) HK.out.cs.ok (by have := HK.out.cs.made; omega) (by omega) (by omega) (by omega)
          have HF5 : Hid (Fr (fun k => k = bc ∨ k = gc ∨ k = g ∨ k = br ∨ k = gs ∨ k = gz ∨ k = q) wa w5) := hs5.fr.mono (fun k _ h => by omega)
          rw [hz] at HBB ⊢
          clear hc5 hs5 hg ebb eww evv x1 x2 x3 hp0 hz HGE
          obtain ⟨o0, o1, o2, o3, o4⟩ := HO5.out w5 HF5.out
          go_wp2_with fail
          refine (HBB.out _).mono ?_
          rintro e w6 ⟨rfl, hf6⟩
          have HF6 : Hid (Fr (fun _ => False) w5 w6) := hf6
          clear hf6 o0 o1 o2 o3 o4
          obtain ⟨o0, o1, o2, o3, o4⟩ := HO5.out w6 (HF5.out.trans HF6.out (fun _ _ h => h.elim))
          go_wp2_with fail
          refine (HRP.out _ HF6.out).mono ?_
          rintro e w8 ⟨rfl, q', d', hr8, ht8⟩
          have HM8 : Hid (MxI w0 w8 bc gc g' c' br gt ct gs gz q' d' I (i + 1)) := HK.out.good (HR.out _ HA.out) hin2 HG.out HC5.out.1 HC5.out.2 HF6.out hr8 ht8
          clear hr8 ht8 o0 o1 o2 o3 o4
          go_wp2_with fail
          go_roundg (n - i)
          case measure => omega
          case rel => exact ⟨i + 1, by omega, by omega, by omega, by go_num, g', c', q', d', HM8.out⟩
        · have HF5 : Hid (Fr (fun _ => False) wa w5) := hf5
          have HNG : Hid (¬ (I i).good) := by rw [HEit.out]; exact hng
          clear hf5 hng HGE
          generalize It.erI ⟨true, b, wd, v, nn⟩ = er at *
          have hz1 : (er == 0) = false := by rw [beq_eq_false_iff_ne]; exact hz
          have hz2 : (er != er) = false := by simp
          clear hz
          obtain ⟨o0, o1, o2, o3, o4⟩ := HO5.out w5 (HF5.out.mono (fun _ _ h => h.elim))
          go_wp2_with fail
          refine (HBB.out _).mono ?_
          rintro e w6 ⟨rfl, hf6⟩
          have HF6 : Hid (Fr (fun _ => False) wa w6) := HF5.out.trans hf6 (fun _ _ h => h)
          clear hf6 o0 o1 o2 o3 o4
          go_wp2_with fail
          go_roundg (n - i)
          case measure => omega
          case rel => exact ⟨i + 1, by omega, by omega, by omega, by go_num, g, c, q, d, (HK.out.later HF6.out).bad HNG.out⟩
    · have hdn : decide (i < n) = true ∧ decide ((i : Int) < 200) = false ∨ decide (i < n) = false := by
        by_cases hx : i < n
        · exact Or.inl ⟨decide_eq_true hx, decide_eq_false (by omega)⟩
        · exact Or.inr (decide_eq_false hx)
      obtain ⟨oo, HOO⟩ : ∃ oo, Hid (oo = (runL (newP 9000) (itsL (dn I i)))) := ⟨_, rfl⟩
      have hmx := HMX.out
      have hcs := hmx.cs
      have hpr := hmx.pr
      rw [← HOO.out] at hcs hpr
      have HCS : Hid (CS w0 wr 9000 bc gc g c oo (38 * i)) := hcs
      have HPR : Hid (Pr w0 wr bc gc 9000 g c br gt ct gs gz 9000 q d oo) := hpr
      clear hmx hcs hpr HMX HOO hin
      have HFL : Hid (Calls Tryd.prog 27 #[.pointer (some ⟨bc, 0, none⟩)] wr fun e w' => ∃ gb' n cap, e = .returned (.tuple #[.slice (some ⟨gb', 1, none⟩) n cap, .int .i64 0]) ∧ SeenAt w' (.slice (some ⟨gb', 1, none⟩) n cap) (flushP oo.s) ∧ DoAt w' bc gc 9000 oo.x ∧ CStep bc gc g gb' wr w' ∧ gb' ≠ bc ∧ gb' ≠ gc) := flush_any wr bc gc 9000 g c oo HCS.out.co HCS.out.ok
      rcases hdn with ⟨dn1, dn2⟩ | dn1
      all_goals
        go_wp2_with fail
        refine Calls.mono HFL.out ?_
        rintro e w5 ⟨gf, nf, cf, rfl, hsn, hdo, hst, -, -⟩
        have HS5 : Hid (SeenAt w5 (.slice (some ⟨gf, 1, none⟩) nf cf) (flushP oo.s) ∧ DoAt w5 bc gc 9000 oo.x) := ⟨hsn, hdo⟩
        obtain ⟨a1, a2, a3, a4⟩ := HPR.out.step1 hst
        have HR5 : Hid (ReAt w5 br gt ct gs gz 9000 q d oo false ∧ Fr (fun _ => False) w0 w5 ∧ Apart3 bc gc gf br gt gs gz q) := ⟨a1, a2, a4⟩
        have HRF : Hid (Calls Tryd.prog 28 #[.pointer (some ⟨br, 0, none⟩)] w5 fun e w' => ∃ gq N cq gb2 cb2, e = .returned (.tuple #[.slice (some ⟨gq, 0, none⟩) N cq, .int .i64 0]) ∧ w'.ownsRow 0 5 1 (.slice (some ⟨gq, 0, none⟩) N cq) N (byteCells (flushP oo.s)) ∧ w5.heap.size ≤ gq ∧ ReAt w' br gt ct gs gz 9000 gb2 cb2 { oo with s := flush2 oo.s } true ∧ RStep br gs gz q gb2 w5 w') := rflush_any w5 br gt ct gs gz 9000 q d oo a1 HCS.out.ok
        clear hsn hdo hst a1 a2 a3 a4
        go_wp2_with fail
        refine Calls.mono HRF.out ?_
        rintro e w6 ⟨gx, nx, cx, q6, d6, rfl, hrow, hgx, hre6, hst6⟩
        have HNX : Hid (nx = (flushP oo.s).length) := by
          have h1 : (byteCells (flushP oo.s)).length = nx * 1 := hrow.1
          have h2 : (byteCells (flushP oo.s)).length = (flushP oo.s).length := by simp [byteCells]
          show nx = _
          omega
        have HFPL : Hid ((flushP oo.s).length ≤ 140737488355328) := by obtain ⟨_, _, _, h, _⟩ := HS5.out.1; exact h
        have HS6 : Hid (∀ w', Fr (fun _ => False) w6 w' → SeenAt w' (.slice (some ⟨gf, 1, none⟩) nf cf) (flushP oo.s) ∧ SeenAt w' (.slice (some ⟨gx, 0, none⟩) nx cx) (flushP oo.s) ∧ DoAt w' bc gc 9000 oo.x ∧ ReAt w' br gt ct gs gz 9000 q6 d6 { oo with s := flush2 oo.s } true) := fun w' f => by
          have ap := HR5.out.2.2
          have e1 := ap.a1
          have e2 := ap.a2
          have e3 := ap.a3
          refine ⟨(HS5.out.1.kept hst6.fr (fun k hk => ?_)).kept f (fun _ _ h => h), ?_, (HS5.out.2.kept hst6.fr (by omega) (by omega)).kept f (fun h => h) (fun h => h), hre6.kept f (fun h => h) (fun h => h) (fun h => h) (fun h => h) (fun h => h)⟩
          · simp [Value.ownBlock] at hk
            omega
          · have hr2 := row_kept hrow f (fun _ _ h => h)
            rw [HNX.out] at hr2 ⊢
            exact SeenAt.of_row hr2 HFPL.out
        have HF6 : Hid (Fr (fun _ => False) w0 w6) := HR5.out.2.1.trans hst6.fr (fun k hk h => by
          have := HPR.out.big
          omega)
        clear hrow hgx hre6 hst6
        have HX : Hid (oo.x.length = 9000 ∧ ∀ y ∈ oo.x, y < 94) := ⟨HCS.out.xl, HCS.out.ok.cells⟩
        have HE1 : Hid (∀ w', Fr (fun _ => False) w6 w' → Calls Tryd.prog 12 #[.slice (some ⟨gf, 1, none⟩) nf cf, .slice (some ⟨gx, 0, none⟩) nx cx] w' fun e w'' => e = .returned (.bool true) ∧ Fr (fun _ => False) w' w'') := fun w' f => by
          refine (eq_any _ _ _ _ w' (HS6.out w' f).1 (HS6.out w' f).2.1).mono ?_
          rintro e w'' ⟨rfl, k, rfl⟩
          exact ⟨by rw [decide_eq_true rfl], (Fr.refl _ _).drewN _⟩
        have HSC : Hid (∀ w', Fr (fun _ => False) w6 w' → Calls Tryd.prog 29 #[.pointer (some ⟨bc, 0, none⟩)] w' fun e w'' => ∃ ga, e = .returned (.slice (some ⟨ga, 0, none⟩) 9000 9000) ∧ w''.ownsRow 0 5 1 (.slice (some ⟨ga, 0, none⟩) 9000 9000) 9000 (byteCells oo.x) ∧ Fr (fun _ => False) w' w'') := fun w' f => by
          obtain ⟨v1, v2, v3, v4, v5, hb⟩ := (HS6.out w' f).2.2.1.blk
          have hxs := (HS6.out w' f).2.2.1.xs
          have hx := HX.out.1
          have := states_at w' bc gc 9000 oo.x (by omega) (by omega) (by simp [World.cell?, hb]) hxs
          rw [hx] at this
          refine this.mono ?_
          rintro e w'' ⟨ga, he, hr, hf, -⟩
          exact ⟨ga, he, hr, hf⟩
        have HSR : Hid (∀ w', Fr (fun _ => False) w6 w' → Calls Tryd.prog 30 #[.pointer (some ⟨br, 0, none⟩)] w' fun e w'' => ∃ rv, e = .returned rv ∧ w''.ownsRow 0 5 1 rv 9000 (byteCells oo.x) ∧ Fr (fun _ => False) w' w'') := fun w' f => by
          refine (rstates_at w' br gt ct gs gz 9000 q6 d6 _ true (HS6.out w' f).2.2.2 (by omega) (by omega) HX.out.2).mono ?_
          rintro e w'' ⟨rv, he, hr, hf, -⟩
          exact ⟨rv, he, hr, hf⟩
        have HE2 : Hid (∀ (w' : World) (u v : Value), w'.ownsRow 0 5 1 u 9000 (byteCells oo.x) → w'.ownsRow 0 5 1 v 9000 (byteCells oo.x) → Calls Tryd.prog 12 #[u, v] w' fun e w'' => e = .returned (.bool true) ∧ Fr (fun _ => False) w' w'') := fun w' u v hu hv => by
          have hx := HX.out.1
          rw [← hx] at hu hv
          refine (eq_any _ _ _ _ w' (SeenAt.of_row hu (by omega)) (SeenAt.of_row hv (by omega))).mono ?_
          rintro e w'' ⟨rfl, k, rfl⟩
          exact ⟨by rw [decide_eq_true rfl], (Fr.refl _ _).drewN _⟩
        have HWK : Hid (∀ w', Fr (fun _ => False) w6 w' → Calls Tryd.prog 9 #[] w' fun e w'' => e = .returned (.bool true) ∧ Fr (fun _ => False) w' w'') := fun w' f => wakes5_any w' (HR.out w' ((HA.out.trans HF6.out (fun _ _ h => h)).trans f (fun _ _ h => h)))
        go_upto_region 25 with (fail)
        go_region_held3 (fun _ => True) (exact trivial) (first | ((have _ := hfd); go_at_call 9; refine (HWK.out _ hfd.out).mono ?_; rintro e wE ⟨rfl, hfe0⟩; (have hfe : Hid (Fr (fun _ => False) w6 wE) := hfd.out.trans hfe0 (fun _ _ h => h)); clear hfe0) | ((have _ := hfc); go_at_call 12; refine (HE2.out _ _ _ hrc2.out hrd.out).mono ?_; rintro e wD ⟨rfl, hfd0⟩; (have hfd : Hid (Fr (fun _ => False) w6 wD) := hfc.out.trans hfd0 (fun _ _ h => h)); clear hfd0) | ((have _ := hfb); go_at_call 30; refine (HSR.out _ hfb.out).mono ?_; rintro e wC ⟨rv, rfl, hrd0, hfc0⟩; (have hrc2 : Hid (wC.ownsRow 0 5 1 (.slice (some ⟨ga, 0, none⟩) 9000 9000) 9000 (byteCells oo.x)) := row_kept hrc.out hfc0 (fun _ _ h => h)); (have hrd : Hid (wC.ownsRow 0 5 1 rv 9000 (byteCells oo.x)) := hrd0); (have hfc : Hid (Fr (fun _ => False) w6 wC) := hfb.out.trans hfc0 (fun _ _ h => h)); clear hrd0 hfc0) | ((have _ := hfa); go_at_call 29; refine (HSC.out _ hfa.out).mono ?_; rintro e wB ⟨ga, rfl, hrc0, hfb0⟩; (have hrc : Hid (wB.ownsRow 0 5 1 (.slice (some ⟨ga, 0, none⟩) 9000 9000) 9000 (byteCells oo.x)) := hrc0); (have hfb : Hid (Fr (fun _ => False) w6 wB) := hfa.out.trans hfb0 (fun _ _ h => h)); clear hrc0 hfb0) | (go_at_call 12; refine (HE1.out _ (Fr.refl _ _).drew).mono ?_; rintro e wA ⟨rfl, hfa0⟩; (have hfa : Hid (Fr (fun _ => False) w6 wA) := (Fr.refl (fun _ => False) w6).drew.trans hfa0 (fun _ _ h => h)); clear hfa0))
        have HZ : Hid (Fr (fun _ => False) w wE) := (HA.out.trans HF6.out (fun _ _ h => h)).trans hfe.out (fun _ _ h => h)
        go_wp2_with fail
        go_ret
        exact ⟨rfl, HZ.out⟩
end Go.Proofs.YtllhekkclhcdbaaDoor
