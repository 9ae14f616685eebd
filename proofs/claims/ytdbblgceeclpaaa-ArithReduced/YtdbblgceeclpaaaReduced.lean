/- The law 'ArithReduced'. -/
import Derived.Deep.RegionHeld3
import Derived.Test.YtdbblgceeclpaaaTwo
namespace Go.Proofs.Ytdbblgceeclpaaa
open Go.RowKit

set_option maxRecDepth 100000 in
set_option maxHeartbeats 4000000 in
theorem reduced_any (mo : Int) (bmo : -9223372036854775808 ≤ mo ∧ mo ≤ 9223372036854775807) (ao : Option Addr) (nn cap : Nat) (K D : Nat → Int) (w : World) (h : DecsAt w ao nn K D) :
    Calls Try.prog 8 #[.agg #[.int .i64 mo, .slice ao nn cap]] w fun e w' => e = .returned (.bool true) ∧ Fr (fun _ => False) w w' := by
  have hnn := h.lim
  have HD : Hid (DecsAt w ao nn K D) := h
  clear h
  go_enter Try.func8, Try.ntmps8
  go_wp2_with fail
  refine (within_any mo 40 _ bmo (by decide) (by decide)).mono ?_
  obtain ⟨p, hp⟩ : ∃ p, p = placeOf mo 40 := ⟨_, rfl⟩
  have hp40 : p < 40 := by rw [hp]; exact placeOf_lt mo (by decide)
  rw [← hp]
  clear hp bmo
  rintro e w1 ⟨rfl, hw1⟩
  have HW1 : Hid (Fr (fun _ => False) w w1) := by rw [hw1]; exact (Fr.refl _ _).alloc _
  have hblk : w1.heap[w.heap.size]? = some (.cells #[.int .i64 mo, .slice ao nn cap] 51 (0, 0)) := by rw [hw1]; exact heap_alloc_new _ _
  obtain ⟨B, HB⟩ : ∃ B, Hid (B = w.heap.size) := ⟨_, rfl⟩
  rw [← HB.out] at hblk ⊢
  have c1 : w1.cell? ⟨B, 1, none⟩ = some (.slice ao nn cap) := by simp [World.cell?, hblk]
  have hBlt : B < w1.heap.size := lt_of_block hblk
  clear hw1 hblk
  obtain ⟨n, hn⟩ : ∃ n, n = 1 + p := ⟨_, rfl⟩
  have hni : 1 + (p : Int) = (n : Int) := by omega
  have hn1 : 1 ≤ n := by omega
  have hn2 : n ≤ 40 := by omega
  have HN : Hid (1 ≤ n ∧ n ≤ 131072) := ⟨by omega, by omega⟩
  clear hn
  go_wp2_with fail
  refine (new_any w1 n HN.out.1 HN.out.2).mono ?_
  rintro e w2 ⟨b1, g1, l1, rfl, hc2, hf2, s1, s2, s3⟩
  have HC2 : Hid (CoAt w2 b1 g1 n l1 1 (newP n)) := hc2
  have HF2 : Hid (Fr (fun _ => False) w1 w2) := hf2
  have HS2 : Hid (w1.heap.size ≤ b1 ∧ w1.heap.size ≤ g1 ∧ w1.heap.size ≤ l1) := ⟨s1, s2, s3⟩
  clear hc2 hf2 s1 s2 s3
  go_wp2_with fail
  refine (new_any w2 n HN.out.1 HN.out.2).mono ?_
  rintro e w3 ⟨b2, g2, l2, rfl, hc3, hf3, t1, t2, t3⟩
  have HT3 : Hid (Two w1 w3 b1 g1 n l1 1 (runC n K (fun j => lowBit (D j)) 0) b2 g2 n l2 1 (runC n K (fun j => lowBit (D j)) 0)) := by
    have x1 := HC2.out.lt
    have x2 := HC2.out.xlt
    have x3 := HC2.out.blt
    have hs := HS2.out
    have hz := HF2.out.size
    exact ⟨HC2.out.kept hf3 (fun hh => hh) (fun hh => hh) (fun hh => hh), hc3, HF2.out.trans hf3 (fun _ _ hh => hh), hs, ⟨by omega, by omega, by omega⟩, by omega⟩
  clear hc3 hf3 t1 t2 t3 HC2 HF2 HS2
  go_wp2_with fail
  go_loopw [8] (fun i wr => ∃ (k l1' m1' l2' m2' : Nat), k ≤ nn ∧ k ≤ 2000 ∧ i = .int .i64 k ∧ Two w1 wr b1 g1 n l1' m1' (runC n K (fun j => lowBit (D j)) k) b2 g2 n l2' m2' (runC n K (fun j => lowBit (D j)) k)) (fun i _ => 2000 - (intOf i).toNat)
  case atStart => exact ⟨0, l1, 1, l2, 1, Nat.zero_le _, Nat.zero_le _, rfl, HT3.out⟩
  case round =>
    obtain ⟨k, l1', m1', l2', m2', hk, hk2, rfl, htw⟩ := hrel
    have HTW : Hid (Two w1 wr b1 g1 n l1' m1' (runC n K (fun j => lowBit (D j)) k) b2 g2 n l2' m2' (runC n K (fun j => lowBit (D j)) k)) := htw
    have cr := htw.fr.cell c1 (fun hh => hh)
    clear htw
    by_cases hlt : k < nn ∧ k < 2000
    · obtain ⟨ha, hb⟩ := hlt
      obtain ⟨b, off, rfl, hcc⟩ := (HD.out.kept (HW1.out.trans HTW.out.fr (fun _ _ hh => hh))).at_ (by omega)
      obtain ⟨cK, cD⟩ := hcc k ha
      obtain ⟨bK, bD⟩ := HD.out.bd k ha
      clear hcc
      rw [Nat.add_zero] at cK
      obtain ⟨kk, hkk⟩ : ∃ kk, kk = K k := ⟨_, rfl⟩
      obtain ⟨dd, hdd⟩ : ∃ dd, dd = D k := ⟨_, rfl⟩
      rw [← hkk] at cK bK
      rw [← hdd] at cD bD
      have HKD : Hid (kk = K k ∧ dd = D k) := ⟨hkk, hdd⟩
      have HBK : Hid (-9223372036854775808 ≤ kk ∧ kk ≤ 9223372036854775807) := bK
      clear hkk hdd bK bD
      have hand : bits BinOp.and IntKind.i64 dd 1 = (lowBit dd : Int) := lowBit_and dd
      obtain ⟨bit, HBIT⟩ : ∃ bit, Hid (bit = lowBit dd) := ⟨_, rfl⟩
      rw [← HBIT.out] at hand
      have hbit : bit < 2 := by rw [HBIT.out]; exact lowBit_lt dd
      go_wp2_with fail
      refine (within_any kk n _ HBK.out hn1 (by omega)).mono ?_
      obtain ⟨x, HX⟩ : ∃ x, Hid (x = placeOf kk n) := ⟨_, rfl⟩
      have hx : x < n := by rw [HX.out]; exact placeOf_lt kk hn1
      rw [← HX.out]
      rintro e w4 ⟨rfl, hw4⟩
      subst hw4
      obtain ⟨m, HM⟩ : ∃ m : Int, Hid (m = (n : Int) * ((k : Int) % 7 - 3)) := ⟨_, rfl⟩
      have hm : (n : Int) * ((k : Int) % 7 - 3) = m := HM.out.symm
      have hmb : -120 ≤ m ∧ m ≤ 120 := by
        rw [HM.out]
        have h1 : -3 ≤ (k : Int) % 7 - 3 ∧ (k : Int) % 7 - 3 ≤ 3 := by omega
        generalize (k : Int) % 7 - 3 = z at h1
        rcases (show z = -3 ∨ z = -2 ∨ z = -1 ∨ z = 0 ∨ z = 1 ∨ z = 2 ∨ z = 3 by omega) with rfl | rfl | rfl | rfl | rfl | rfl | rfl <;> omega
      obtain ⟨ok1, ok2, ok3⟩ := runC_ok HN.out.1 HN.out.2 K (fun j => lowBit (D j)) k (by omega)
      have HR : Hid (∀ i : Int, placeOf i n = x → putP (runC n K (fun j => lowBit (D j)) k) i bit = runC n K (fun j => lowBit (D j)) (k + 1)) := by
        intro i hi
        show putP _ _ _ = putP _ _ _
        rw [HBIT.out, HKD.out.2]
        exact putP_congr _ _ _ _ (by rw [ok3, hi, HX.out, HKD.out.1])
      have HP : Hid (∀ (i : Int) (w : World) (b g l m : Nat), placeOf i n = x → (-9223372036854775808 ≤ i ∧ i ≤ 9223372036854775807) → CoAt w b g n l m (runC n K (fun j => lowBit (D j)) k) → Calls Try.prog 11 #[.pointer (some ⟨b, 0, none⟩), .int .i64 i, .int .i64 bit] w fun e w' => e = .returned (.int .i64 0) ∧ ∃ l' m', CoAt w' b g n l' m' (runC n K (fun j => lowBit (D j)) (k + 1)) ∧ CStep b g l l' w w') := by
        intro i w b g l m hi hib hco
        have := put_any w b g n l m _ hco ok1 (by rw [ok2]; omega) i hib bit hbit
        rw [HR.out i hi] at this
        exact this
      clear ok1 ok2 ok3
      have HX1 : Hid (placeOf (x : Int) n = x) := placeOf_nat x n hx
      have HX2 : Hid (placeOf ((x : Int) + m) n = x) := by show _ = _; rw [HM.out]; exact placeOf_moved x n _ hx
      go_wp2_with fail
      refine (HP.out (x : Int) w4 b1 g1 l1' m1' HX1.out (by omega) HTW.out.at1).mono ?_
      rintro e w5 ⟨rfl, l5, m5, hc5, hs5⟩
      have HT5 : Hid (Two w1 w5 b1 g1 n l5 m5 (runC n K (fun j => lowBit (D j)) (k + 1)) b2 g2 n l2' m2' (runC n K (fun j => lowBit (D j)) k)) := HTW.out.step1 hc5 hs5
      have HF5 : Hid (Fr (fun j => j = b1 ∨ j = g1 ∨ j = l1') w4 w5) := hs5.fr
      have cr5 := HT5.out.fr.cell c1 (fun hh => hh)
      obtain ⟨b', off', e', hcc5⟩ := (HD.out.kept (HW1.out.trans HT5.out.fr (fun _ _ hh => hh))).at_ (by omega)
      simp only [Option.some.injEq, Addr.mk.injEq, and_true] at e'
      obtain ⟨rfl, rfl⟩ := e'
      obtain ⟨_, cD5⟩ := hcc5 k ha
      rw [← HKD.out.2] at cD5
      clear hc5 hs5 hcc5
      go_wp2_with fail
      refine (HP.out ((x : Int) + m) w5 b2 g2 l2' m2' HX2.out (by omega) HT5.out.at2).mono ?_
      rintro e w6 ⟨rfl, l6, m6, hc6, hs6⟩
      have HT6 : Hid (Two w1 w6 b1 g1 n l5 m5 (runC n K (fun j => lowBit (D j)) (k + 1)) b2 g2 n l6 m6 (runC n K (fun j => lowBit (D j)) (k + 1))) := HT5.out.step2 hc6 hs6
      clear hc6 hs6
      go_wp2_with fail
      refine ⟨⟨k + 1, l5, m5, l6, m6, by omega, by omega, congrArg (Value.int .i64) (by omega), HT6.out⟩, by simp [intOf]; omega⟩
    · have HOK : Hid (Ook (runC n K (fun j => lowBit (D j)) k) ∧ (runC n K (fun j => lowBit (D j)) k).made = k ∧ (runC n K (fun j => lowBit (D j)) k).x.length = n) := runC_ok HN.out.1 HN.out.2 K (fun j => lowBit (D j)) k (by omega)
      by_cases ha : k < nn
      · have hb : ¬ k < 2000 := by omega
        go_wp2_with fail
        refine (flush_any wr b1 g1 n l1' m1' _ HTW.out.at1 HOK.out.1).mono ?_
        rintro e w4 ⟨q1, n1, cap1, rfl, hse1, hdo1, hst1, hq1, hq1'⟩
        have HC2 : Hid (CoAt w4 b2 g2 n l2' m2' (runC n K (fun j => lowBit (D j)) k)) := by
          have a := HTW.out.apart
          have a1 := HTW.out.at2.lt
          have a2 := HTW.out.at2.xlt
          have a3 := HTW.out.at2.blt
          exact HTW.out.at2.kept hst1.fr (by omega) (by omega) (by omega)
        have HSE1 : Hid (SeenAt w4 (.slice (some ⟨q1, 1, none⟩) n1 cap1) (flushP (runC n K (fun j => lowBit (D j)) k).s)) := hse1
        have HDO1 : Hid (DoAt w4 b1 g1 n (runC n K (fun j => lowBit (D j)) k).x) := hdo1
        have HF4 : Hid (Fr (fun _ => False) w1 w4) := (CStep.fresh HTW.out.fr hst1 HTW.out.new1).1
        have HAP : Hid ((q1 ≠ b2 ∧ q1 ≠ g2 ∧ q1 ≠ l2') ∧ (b1 ≠ b2 ∧ b1 ≠ g2 ∧ b1 ≠ l2') ∧ (g1 ≠ b2 ∧ g1 ≠ g2 ∧ g1 ≠ l2')) := by
          have a := HTW.out.apart
          have a1 := HTW.out.at2.lt
          have a2 := HTW.out.at2.xlt
          have a3 := HTW.out.at2.blt
          refine ⟨?_, a.1, a.2.1⟩
          rcases hst1.row with e | e
          · rw [e]; exact a.2.2
          · omega
        clear hse1 hdo1 hst1 hq1 hq1'
        go_wp2_with fail
        refine (flush_any w4 b2 g2 n l2' m2' _ HC2.out HOK.out.1).mono ?_
        rintro e w5 ⟨q2, n2, cap2, rfl, hse2, hdo2, hst2, hq2, hq2'⟩
        have HSE1b : Hid (SeenAt w5 (.slice (some ⟨q1, 1, none⟩) n1 cap1) (flushP (runC n K (fun j => lowBit (D j)) k).s)) := HSE1.out.kept hst2.fr (fun j hj => by simp [Value.ownBlock] at hj; have := HAP.out.1; omega)
        have HSE2 : Hid (SeenAt w5 (.slice (some ⟨q2, 1, none⟩) n2 cap2) (flushP (runC n K (fun j => lowBit (D j)) k).s)) := hse2
        have HDO1b : Hid (DoAt w5 b1 g1 n (runC n K (fun j => lowBit (D j)) k).x) := HDO1.out.kept hst2.fr (by have := HAP.out.2.1; omega) (by have := HAP.out.2.2; omega)
        have HDO2 : Hid (DoAt w5 b2 g2 n (runC n K (fun j => lowBit (D j)) k).x) := hdo2
        have HF5 : Hid (Fr (fun _ => False) w w5) := HW1.out.trans (CStep.fresh HF4.out hst2 HTW.out.new2).1 (fun _ _ hh => hh)
        have c5 := (CStep.fresh HF4.out hst2 HTW.out.new2).1.cell c1 (fun hh => hh)
        clear hse2 hdo2 hst2 hq2 hq2' HSE1 HDO1 HF4 HAP HC2 c1 cr HTW HT3
        have HE1 : Hid (∀ w', Fr (fun _ => False) w5 w' → Calls Try.prog 14 #[.slice (some ⟨q1, 1, none⟩) n1 cap1, .slice (some ⟨q2, 1, none⟩) n2 cap2] w' fun e w'' => e = .returned (.bool true) ∧ Fr (fun _ => False) w' w'') := by
          intro w' f
          refine (eq_any _ _ _ _ w' (HSE1b.out.kept f (fun _ _ hh => hh)) (HSE2.out.kept f (fun _ _ hh => hh))).mono ?_
          rintro e w'' ⟨rfl, q, rfl⟩
          exact ⟨by rw [decide_eq_true rfl], (Fr.refl _ _).drewN q⟩
        have HSA : Hid (∀ (bb gg : Nat), DoAt w5 bb gg n (runC n K (fun j => lowBit (D j)) k).x → ∀ w', Fr (fun _ => False) w5 w' → Calls Try.prog 16 #[.pointer (some ⟨bb, 0, none⟩)] w' fun e w'' => ∃ g, e = .returned (.slice (some ⟨g, 0, none⟩) n n) ∧ SeenAt w'' (.slice (some ⟨g, 0, none⟩) n n) (runC n K (fun j => lowBit (D j)) k).x ∧ Fr (fun _ => False) w' w'') := by
          intro bb gg hdo w' f
          have hd := hdo.kept f (fun hh => hh) (fun hh => hh)
          obtain ⟨v1, v2, v3, v4, v5, hb⟩ := hd.blk
          refine (states_at w' bb gg n _ HOK.out.1.pos HOK.out.1.lim (cell_of_seven hb).1 hd.xs).mono ?_
          rintro e w'' ⟨g, rfl, ho, f2, _⟩
          have hln := HOK.out.2.2
          refine ⟨g, by rw [hln], ?_, f2⟩
          have := SeenAt.of_row ho (by have := HOK.out.1.lim; omega)
          rw [hln] at this
          exact this
        have HSA1 : Hid (∀ w', Fr (fun _ => False) w5 w' → Calls Try.prog 16 #[.pointer (some ⟨b1, 0, none⟩)] w' fun e w'' => ∃ g, e = .returned (.slice (some ⟨g, 0, none⟩) n n) ∧ SeenAt w'' (.slice (some ⟨g, 0, none⟩) n n) (runC n K (fun j => lowBit (D j)) k).x ∧ Fr (fun _ => False) w' w'') := HSA.out b1 g1 HDO1b.out
        have HSA2 : Hid (∀ w', Fr (fun _ => False) w5 w' → Calls Try.prog 16 #[.pointer (some ⟨b2, 0, none⟩)] w' fun e w'' => ∃ g, e = .returned (.slice (some ⟨g, 0, none⟩) n n) ∧ SeenAt w'' (.slice (some ⟨g, 0, none⟩) n n) (runC n K (fun j => lowBit (D j)) k).x ∧ Fr (fun _ => False) w' w'') := HSA.out b2 g2 HDO2.out
        have HE2 : Hid (∀ (w' : World) (ga gb : Nat), SeenAt w' (.slice (some ⟨ga, 0, none⟩) n n) (runC n K (fun j => lowBit (D j)) k).x → SeenAt w' (.slice (some ⟨gb, 0, none⟩) n n) (runC n K (fun j => lowBit (D j)) k).x → Calls Try.prog 14 #[.slice (some ⟨ga, 0, none⟩) n n, .slice (some ⟨gb, 0, none⟩) n n] w' fun e w'' => e = .returned (.bool true) ∧ Fr (fun _ => False) w' w'') := by
          intro w' ga gb s1 s2
          refine (eq_any _ _ _ _ w' s1 s2).mono ?_
          rintro e w'' ⟨rfl, q, rfl⟩
          exact ⟨by rw [decide_eq_true rfl], (Fr.refl _ _).drewN q⟩
        clear HSA HSE1b HSE2 HDO1b HDO2
        have HKP : Hid (∀ w', Fr (fun _ => False) w5 w' → w'.cell? ⟨B, 1, none⟩ = some (.slice ao nn cap)) := fun w' f => f.cell c5 (fun hh => hh)
        go_wp2_with fail
        go_region_held3 (fun w' => w'.cell? ⟨B, 1, none⟩ = some (.slice ao nn cap)) (exact HKP.out _ (by repeat (first | with_reducible exact Fr.refl _ _ | with_reducible refine Fr.drew ?_ | with_reducible refine Fr.trans ?_ hf10 (fun _ _ hh => hh) | with_reducible refine Fr.trans ?_ hf9 (fun _ _ hh => hh) | with_reducible refine Fr.trans ?_ hf8 (fun _ _ hh => hh) | with_reducible refine Fr.trans ?_ hf7 (fun _ _ hh => hh) | with_reducible refine Fr.trans ?_ hf6 (fun _ _ hh => hh)))) (first | (go_at_call 17; refine (wakes_any _).mono ?_; rintro e w10 ⟨rfl, hf10⟩) | (go_at_call 14; (have _ := hf8); refine (HE2.out _ ga gb (sa.kept hf8 (fun _ _ hh => hh)) sb).mono ?_; rintro e w9 ⟨rfl, hf9⟩) | (go_at_call 16; (have _ := hf7); refine (HSA2.out _ (by with_reducible exact ((((Fr.refl (fun _ => False) w5).drew).trans hf6 (fun _ _ hh => hh)).trans hf7 (fun _ _ hh => hh)))).mono ?_; rintro e w8 ⟨gb, rfl, sb, hf8⟩) | (go_at_call 16; refine (HSA1.out _ (by with_reducible exact (((Fr.refl (fun _ => False) w5).drew).trans hf6 (fun _ _ hh => hh)))).mono ?_; rintro e w7 ⟨ga, rfl, sa, hf7⟩) | (go_at_call 14; refine (HE1.out _ (by with_reducible exact ((Fr.refl (fun _ => False) w5).drew))).mono ?_; rintro e w6 ⟨rfl, hf6⟩))
        go_wp2_with fail
        go_ret
        exact ⟨rfl, (((((HF5.out.drew).trans hf6 (fun _ _ hh => hh)).trans hf7 (fun _ _ hh => hh)).trans hf8 (fun _ _ hh => hh)).trans hf9 (fun _ _ hh => hh)).trans hf10 (fun _ _ hh => hh)⟩
      · go_wp2_with fail
        refine (flush_any wr b1 g1 n l1' m1' _ HTW.out.at1 HOK.out.1).mono ?_
        rintro e w4 ⟨q1, n1, cap1, rfl, hse1, hdo1, hst1, hq1, hq1'⟩
        have HC2 : Hid (CoAt w4 b2 g2 n l2' m2' (runC n K (fun j => lowBit (D j)) k)) := by
          have a := HTW.out.apart
          have a1 := HTW.out.at2.lt
          have a2 := HTW.out.at2.xlt
          have a3 := HTW.out.at2.blt
          exact HTW.out.at2.kept hst1.fr (by omega) (by omega) (by omega)
        have HSE1 : Hid (SeenAt w4 (.slice (some ⟨q1, 1, none⟩) n1 cap1) (flushP (runC n K (fun j => lowBit (D j)) k).s)) := hse1
        have HDO1 : Hid (DoAt w4 b1 g1 n (runC n K (fun j => lowBit (D j)) k).x) := hdo1
        have HF4 : Hid (Fr (fun _ => False) w1 w4) := (CStep.fresh HTW.out.fr hst1 HTW.out.new1).1
        have HAP : Hid ((q1 ≠ b2 ∧ q1 ≠ g2 ∧ q1 ≠ l2') ∧ (b1 ≠ b2 ∧ b1 ≠ g2 ∧ b1 ≠ l2') ∧ (g1 ≠ b2 ∧ g1 ≠ g2 ∧ g1 ≠ l2')) := by
          have a := HTW.out.apart
          have a1 := HTW.out.at2.lt
          have a2 := HTW.out.at2.xlt
          have a3 := HTW.out.at2.blt
          refine ⟨?_, a.1, a.2.1⟩
          rcases hst1.row with e | e
          · rw [e]; exact a.2.2
          · omega
        clear hse1 hdo1 hst1 hq1 hq1'
        go_wp2_with fail
        refine (flush_any w4 b2 g2 n l2' m2' _ HC2.out HOK.out.1).mono ?_
        rintro e w5 ⟨q2, n2, cap2, rfl, hse2, hdo2, hst2, hq2, hq2'⟩
        have HSE1b : Hid (SeenAt w5 (.slice (some ⟨q1, 1, none⟩) n1 cap1) (flushP (runC n K (fun j => lowBit (D j)) k).s)) := HSE1.out.kept hst2.fr (fun j hj => by simp [Value.ownBlock] at hj; have := HAP.out.1; omega)
        have HSE2 : Hid (SeenAt w5 (.slice (some ⟨q2, 1, none⟩) n2 cap2) (flushP (runC n K (fun j => lowBit (D j)) k).s)) := hse2
        have HDO1b : Hid (DoAt w5 b1 g1 n (runC n K (fun j => lowBit (D j)) k).x) := HDO1.out.kept hst2.fr (by have := HAP.out.2.1; omega) (by have := HAP.out.2.2; omega)
        have HDO2 : Hid (DoAt w5 b2 g2 n (runC n K (fun j => lowBit (D j)) k).x) := hdo2
        have HF5 : Hid (Fr (fun _ => False) w w5) := HW1.out.trans (CStep.fresh HF4.out hst2 HTW.out.new2).1 (fun _ _ hh => hh)
        have c5 := (CStep.fresh HF4.out hst2 HTW.out.new2).1.cell c1 (fun hh => hh)
        clear hse2 hdo2 hst2 hq2 hq2' HSE1 HDO1 HF4 HAP HC2 c1 cr HTW HT3
        have HE1 : Hid (∀ w', Fr (fun _ => False) w5 w' → Calls Try.prog 14 #[.slice (some ⟨q1, 1, none⟩) n1 cap1, .slice (some ⟨q2, 1, none⟩) n2 cap2] w' fun e w'' => e = .returned (.bool true) ∧ Fr (fun _ => False) w' w'') := by
          intro w' f
          refine (eq_any _ _ _ _ w' (HSE1b.out.kept f (fun _ _ hh => hh)) (HSE2.out.kept f (fun _ _ hh => hh))).mono ?_
          rintro e w'' ⟨rfl, q, rfl⟩
          exact ⟨by rw [decide_eq_true rfl], (Fr.refl _ _).drewN q⟩
        have HSA : Hid (∀ (bb gg : Nat), DoAt w5 bb gg n (runC n K (fun j => lowBit (D j)) k).x → ∀ w', Fr (fun _ => False) w5 w' → Calls Try.prog 16 #[.pointer (some ⟨bb, 0, none⟩)] w' fun e w'' => ∃ g, e = .returned (.slice (some ⟨g, 0, none⟩) n n) ∧ SeenAt w'' (.slice (some ⟨g, 0, none⟩) n n) (runC n K (fun j => lowBit (D j)) k).x ∧ Fr (fun _ => False) w' w'') := by
          intro bb gg hdo w' f
          have hd := hdo.kept f (fun hh => hh) (fun hh => hh)
          obtain ⟨v1, v2, v3, v4, v5, hb⟩ := hd.blk
          refine (states_at w' bb gg n _ HOK.out.1.pos HOK.out.1.lim (cell_of_seven hb).1 hd.xs).mono ?_
          rintro e w'' ⟨g, rfl, ho, f2, _⟩
          have hln := HOK.out.2.2
          refine ⟨g, by rw [hln], ?_, f2⟩
          have := SeenAt.of_row ho (by have := HOK.out.1.lim; omega)
          rw [hln] at this
          exact this
        have HSA1 : Hid (∀ w', Fr (fun _ => False) w5 w' → Calls Try.prog 16 #[.pointer (some ⟨b1, 0, none⟩)] w' fun e w'' => ∃ g, e = .returned (.slice (some ⟨g, 0, none⟩) n n) ∧ SeenAt w'' (.slice (some ⟨g, 0, none⟩) n n) (runC n K (fun j => lowBit (D j)) k).x ∧ Fr (fun _ => False) w' w'') := HSA.out b1 g1 HDO1b.out
        have HSA2 : Hid (∀ w', Fr (fun _ => False) w5 w' → Calls Try.prog 16 #[.pointer (some ⟨b2, 0, none⟩)] w' fun e w'' => ∃ g, e = .returned (.slice (some ⟨g, 0, none⟩) n n) ∧ SeenAt w'' (.slice (some ⟨g, 0, none⟩) n n) (runC n K (fun j => lowBit (D j)) k).x ∧ Fr (fun _ => False) w' w'') := HSA.out b2 g2 HDO2.out
        have HE2 : Hid (∀ (w' : World) (ga gb : Nat), SeenAt w' (.slice (some ⟨ga, 0, none⟩) n n) (runC n K (fun j => lowBit (D j)) k).x → SeenAt w' (.slice (some ⟨gb, 0, none⟩) n n) (runC n K (fun j => lowBit (D j)) k).x → Calls Try.prog 14 #[.slice (some ⟨ga, 0, none⟩) n n, .slice (some ⟨gb, 0, none⟩) n n] w' fun e w'' => e = .returned (.bool true) ∧ Fr (fun _ => False) w' w'') := by
          intro w' ga gb s1 s2
          refine (eq_any _ _ _ _ w' s1 s2).mono ?_
          rintro e w'' ⟨rfl, q, rfl⟩
          exact ⟨by rw [decide_eq_true rfl], (Fr.refl _ _).drewN q⟩
        clear HSA HSE1b HSE2 HDO1b HDO2
        have HKP : Hid (∀ w', Fr (fun _ => False) w5 w' → w'.cell? ⟨B, 1, none⟩ = some (.slice ao nn cap)) := fun w' f => f.cell c5 (fun hh => hh)
        go_wp2_with fail
        go_region_held3 (fun w' => w'.cell? ⟨B, 1, none⟩ = some (.slice ao nn cap)) (exact HKP.out _ (by repeat (first | with_reducible exact Fr.refl _ _ | with_reducible refine Fr.drew ?_ | with_reducible refine Fr.trans ?_ hf10 (fun _ _ hh => hh) | with_reducible refine Fr.trans ?_ hf9 (fun _ _ hh => hh) | with_reducible refine Fr.trans ?_ hf8 (fun _ _ hh => hh) | with_reducible refine Fr.trans ?_ hf7 (fun _ _ hh => hh) | with_reducible refine Fr.trans ?_ hf6 (fun _ _ hh => hh)))) (first | (go_at_call 17; refine (wakes_any _).mono ?_; rintro e w10 ⟨rfl, hf10⟩) | (go_at_call 14; (have _ := hf8); refine (HE2.out _ ga gb (sa.kept hf8 (fun _ _ hh => hh)) sb).mono ?_; rintro e w9 ⟨rfl, hf9⟩) | (go_at_call 16; (have _ := hf7); refine (HSA2.out _ (by with_reducible exact ((((Fr.refl (fun _ => False) w5).drew).trans hf6 (fun _ _ hh => hh)).trans hf7 (fun _ _ hh => hh)))).mono ?_; rintro e w8 ⟨gb, rfl, sb, hf8⟩) | (go_at_call 16; refine (HSA1.out _ (by with_reducible exact (((Fr.refl (fun _ => False) w5).drew).trans hf6 (fun _ _ hh => hh)))).mono ?_; rintro e w7 ⟨ga, rfl, sa, hf7⟩) | (go_at_call 14; refine (HE1.out _ (by with_reducible exact ((Fr.refl (fun _ => False) w5).drew))).mono ?_; rintro e w6 ⟨rfl, hf6⟩))
        go_wp2_with fail
        go_ret
        exact ⟨rfl, (((((HF5.out.drew).trans hf6 (fun _ _ hh => hh)).trans hf7 (fun _ _ hh => hh)).trans hf8 (fun _ _ hh => hh)).trans hf9 (fun _ _ hh => hh)).trans hf10 (fun _ _ hh => hh)⟩

end Go.Proofs.Ytdbblgceeclpaaa
