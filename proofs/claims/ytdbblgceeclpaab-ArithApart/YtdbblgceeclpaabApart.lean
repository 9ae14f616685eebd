/- The law 'ArithApart'. -/
import Derived.Deep.RegionHeld3
import Derived.Test.YtdbblgceeclpaabTwo
namespace Go.Proofs.Ytdbblgceeclpaab
open Go.RowKit

theorem out3 {x a b c : Nat} (h1 : a ≠ x) (h2 : b ≠ x) (h3 : c ≠ x) : ¬ (x = a ∨ x = b ∨ x = c) := by
  rintro (e | e | e)
  · exact h1 e.symm
  · exact h2 e.symm
  · exact h3 e.symm

/-- Two coders that a third one's step leaves as they are. -/
theorem Two.other {w0 w w' : World} {b1 g1 c1 l1 m1 : Nat} {o1 : Co} {b2 g2 c2 l2 m2 : Nat} {o2 : Co} {b3 g3 l3 l3' : Nat} (h : Two w0 w b1 g1 c1 l1 m1 o1 b2 g2 c2 l2 m2 o2) (hs : CStep b3 g3 l3 l3' w w') (hn : w0.heap.size ≤ b3 ∧ w0.heap.size ≤ g3 ∧ w0.heap.size ≤ l3)
    (h1 : (b3 ≠ b1 ∧ b3 ≠ g1 ∧ b3 ≠ l1) ∧ (g3 ≠ b1 ∧ g3 ≠ g1 ∧ g3 ≠ l1) ∧ (l3 ≠ b1 ∧ l3 ≠ g1 ∧ l3 ≠ l1)) (h2 : (b3 ≠ b2 ∧ b3 ≠ g2 ∧ b3 ≠ l2) ∧ (g3 ≠ b2 ∧ g3 ≠ g2 ∧ g3 ≠ l2) ∧ (l3 ≠ b2 ∧ l3 ≠ g2 ∧ l3 ≠ l2)) :
    Two w0 w' b1 g1 c1 l1 m1 o1 b2 g2 c2 l2 m2 o2 :=
  ⟨h.at1.kept hs.fr (out3 h1.1.1 h1.2.1.1 h1.2.2.1) (out3 h1.1.2.1 h1.2.1.2.1 h1.2.2.2.1) (out3 h1.1.2.2 h1.2.1.2.2 h1.2.2.2.2), h.at2.kept hs.fr (out3 h2.1.1 h2.2.1.1 h2.2.2.1) (out3 h2.1.2.1 h2.2.1.2.1 h2.2.2.2.1) (out3 h2.1.2.2 h2.2.1.2.2 h2.2.2.2.2), (CStep.fresh h.fr hs hn).1, h.new1, h.new2, h.apart⟩

/-- Three coders side by side. -/
structure Three (w0 w : World) (b1 g1 c1 l1 m1 : Nat) (o1 : Co) (b2 g2 c2 l2 m2 : Nat) (o2 : Co) (b3 g3 c3 l3 m3 : Nat) (o3 : Co) : Prop where
  t12 : Two w0 w b1 g1 c1 l1 m1 o1 b2 g2 c2 l2 m2 o2
  t13 : Two w0 w b1 g1 c1 l1 m1 o1 b3 g3 c3 l3 m3 o3
  t23 : Two w0 w b2 g2 c2 l2 m2 o2 b3 g3 c3 l3 m3 o3

theorem Three.step1 {w0 w w' : World} {b1 g1 c1 l1 m1 : Nat} {o1 : Co} {b2 g2 c2 l2 m2 : Nat} {o2 : Co} {b3 g3 c3 l3 m3 : Nat} {o3 : Co} {l' m' : Nat} {o' : Co} (h : Three w0 w b1 g1 c1 l1 m1 o1 b2 g2 c2 l2 m2 o2 b3 g3 c3 l3 m3 o3) (hc : CoAt w' b1 g1 c1 l' m' o') (hs : CStep b1 g1 l1 l' w w') :
    Three w0 w' b1 g1 c1 l' m' o' b2 g2 c2 l2 m2 o2 b3 g3 c3 l3 m3 o3 :=
  ⟨h.t12.step1 hc hs, h.t13.step1 hc hs, h.t23.other hs h.t12.new1 h.t12.apart h.t13.apart⟩
theorem Three.swap12 {w0 w : World} {b1 g1 c1 l1 m1 : Nat} {o1 : Co} {b2 g2 c2 l2 m2 : Nat} {o2 : Co} {b3 g3 c3 l3 m3 : Nat} {o3 : Co} (h : Three w0 w b1 g1 c1 l1 m1 o1 b2 g2 c2 l2 m2 o2 b3 g3 c3 l3 m3 o3) : Three w0 w b2 g2 c2 l2 m2 o2 b1 g1 c1 l1 m1 o1 b3 g3 c3 l3 m3 o3 := ⟨h.t12.swap, h.t23, h.t13⟩
theorem Three.swap13 {w0 w : World} {b1 g1 c1 l1 m1 : Nat} {o1 : Co} {b2 g2 c2 l2 m2 : Nat} {o2 : Co} {b3 g3 c3 l3 m3 : Nat} {o3 : Co} (h : Three w0 w b1 g1 c1 l1 m1 o1 b2 g2 c2 l2 m2 o2 b3 g3 c3 l3 m3 o3) : Three w0 w b3 g3 c3 l3 m3 o3 b2 g2 c2 l2 m2 o2 b1 g1 c1 l1 m1 o1 := ⟨h.t23.swap, h.t13.swap, h.t12.swap⟩
theorem Three.step2 {w0 w w' : World} {b1 g1 c1 l1 m1 : Nat} {o1 : Co} {b2 g2 c2 l2 m2 : Nat} {o2 : Co} {b3 g3 c3 l3 m3 : Nat} {o3 : Co} {l' m' : Nat} {o' : Co} (h : Three w0 w b1 g1 c1 l1 m1 o1 b2 g2 c2 l2 m2 o2 b3 g3 c3 l3 m3 o3) (hc : CoAt w' b2 g2 c2 l' m' o') (hs : CStep b2 g2 l2 l' w w') :
    Three w0 w' b1 g1 c1 l1 m1 o1 b2 g2 c2 l' m' o' b3 g3 c3 l3 m3 o3 := (h.swap12.step1 hc hs).swap12
theorem Three.step3 {w0 w w' : World} {b1 g1 c1 l1 m1 : Nat} {o1 : Co} {b2 g2 c2 l2 m2 : Nat} {o2 : Co} {b3 g3 c3 l3 m3 : Nat} {o3 : Co} {l' m' : Nat} {o' : Co} (h : Three w0 w b1 g1 c1 l1 m1 o1 b2 g2 c2 l2 m2 o2 b3 g3 c3 l3 m3 o3) (hc : CoAt w' b3 g3 c3 l' m' o') (hs : CStep b3 g3 l3 l' w w') :
    Three w0 w' b1 g1 c1 l1 m1 o1 b2 g2 c2 l2 m2 o2 b3 g3 c3 l' m' o' := (h.swap13.step1 hc hs).swap13
theorem Three.later {w0 w w' : World} {b1 g1 c1 l1 m1 : Nat} {o1 : Co} {b2 g2 c2 l2 m2 : Nat} {o2 : Co} {b3 g3 c3 l3 m3 : Nat} {o3 : Co} (h : Three w0 w b1 g1 c1 l1 m1 o1 b2 g2 c2 l2 m2 o2 b3 g3 c3 l3 m3 o3) (f : Fr (fun _ => False) w w') : Three w0 w' b1 g1 c1 l1 m1 o1 b2 g2 c2 l2 m2 o2 b3 g3 c3 l3 m3 o3 := ⟨h.t12.later f, h.t13.later f, h.t23.later f⟩

/-- A put of a script's decision. -/
theorem run_put {n : Nat} (h1 : 1 ≤ n) (h2 : n ≤ 131072) (K : Nat → Int) (D : Nat → Nat) {k : Nat} (hk : k < 16777216) (i : Int) (hi : -9223372036854775808 ≤ i ∧ i ≤ 9223372036854775807) (hp : placeOf i n = placeOf (K k) n) (bit : Nat) (hb : bit = D k) (hb2 : bit < 2) (w : World) (b g l m : Nat) (hco : CoAt w b g n l m (runC n K D k)) :
    Calls Try.prog 6 #[.pointer (some ⟨b, 0, none⟩), .int .i64 i, .int .i64 bit] w fun e w' => e = .returned (.int .i64 0) ∧ ∃ l' m', CoAt w' b g n l' m' (runC n K D (k + 1)) ∧ CStep b g l l' w w' := by
  obtain ⟨ok1, ok2, ok3⟩ := runC_ok h1 h2 K D k (by omega)
  have := put_any w b g n l m _ hco ok1 (by rw [ok2]; exact hk) i hi bit hb2
  have e : putP (runC n K D k) i bit = runC n K D (k + 1) := by
    show putP _ _ _ = putP _ _ _
    rw [← hb]
    exact putP_congr _ _ _ _ (by rw [ok3]; exact hp)
  rw [e] at this
  exact this
/-- Its states. -/
theorem run_states {n : Nat} (h1 : 1 ≤ n) (h2 : n ≤ 131072) (K : Nat → Int) (D : Nat → Nat) {k : Nat} (hk : k ≤ 16777216) (w : World) (b g l m : Nat) (hco : CoAt w b g n l m (runC n K D k)) :
    Calls Try.prog 7 #[.pointer (some ⟨b, 0, none⟩)] w fun e w' => ∃ q, e = .returned (.slice (some ⟨q, 0, none⟩) n n) ∧ Fr (fun _ => False) w w' := by
  obtain ⟨ok1, ok2, ok3⟩ := runC_ok h1 h2 K D k hk
  refine (states_at w b g n _ ok1.pos ok1.lim (cell_of_seven hco.blk).1 hco.xs).mono ?_
  rintro e w' ⟨q, rfl, _, f, _⟩
  exact ⟨q, by rw [ok3], f⟩

set_option maxRecDepth 100000 in
set_option maxHeartbeats 4000000 in
theorem apart_any (mo : Int) (bmo : -9223372036854775808 ≤ mo ∧ mo ≤ 9223372036854775807) (ao : Option Addr) (nn cap : Nat) (K D : Nat → Int) (w : World) (h : DecsAt w ao nn K D) :
    Calls Try.prog 3 #[.agg #[.int .i64 mo, .slice ao nn cap]] w fun e w' => e = .returned (.bool true) ∧ Fr (fun _ => False) w w' := by
  have hnn := h.lim
  have HD : Hid (DecsAt w ao nn K D) := h
  clear h
  go_enter Try.func3, Try.ntmps3
  go_wp2_with fail
  refine (within_any mo 20 _ bmo (by decide) (by decide)).mono ?_
  obtain ⟨p, hp⟩ : ∃ p, p = placeOf mo 20 := ⟨_, rfl⟩
  have hp20 : p < 20 := by rw [hp]; exact placeOf_lt mo (by decide)
  rw [← hp]
  clear hp bmo
  rintro e w1 ⟨rfl, hw1⟩
  have HW1 : Hid (Fr (fun _ => False) w w1) := by rw [hw1]; exact (Fr.refl _ _).alloc _
  have hblk : w1.heap[w.heap.size]? = some (.cells #[.int .i64 mo, .slice ao nn cap] 24 (0, 0)) := by rw [hw1]; exact heap_alloc_new _ _
  obtain ⟨B, HB⟩ : ∃ B, Hid (B = w.heap.size) := ⟨_, rfl⟩
  rw [← HB.out] at hblk ⊢
  have c1 : w1.cell? ⟨B, 1, none⟩ = some (.slice ao nn cap) := by simp [World.cell?, hblk]
  have hBlt : B < w1.heap.size := lt_of_block hblk
  clear hw1 hblk
  obtain ⟨n, hn⟩ : ∃ n, n = 1 + p := ⟨_, rfl⟩
  have hni : 1 + (p : Int) = (n : Int) := by omega
  have hn1 : 1 ≤ n := by omega
  have hn2 : n ≤ 20 := by omega
  obtain ⟨n3, hn3⟩ : ∃ n3, n3 = n + 3 := ⟨_, rfl⟩
  have HN : Hid ((1 ≤ n ∧ n ≤ 131072) ∧ (1 ≤ n3 ∧ n3 ≤ 131072)) := ⟨⟨by omega, by omega⟩, by omega, by omega⟩
  have hn3i : (n : Int) + 3 = (n3 : Int) := by omega
  clear hn3
  obtain ⟨LA, HLA⟩ : ∃ LA, Hid (LA = fun j => lowBit (D j)) := ⟨_, rfl⟩
  obtain ⟨LB, HLB⟩ : ∃ LB, Hid (LB = fun j => 1 - lowBit (D j)) := ⟨_, rfl⟩
  obtain ⟨KB, HKB⟩ : ∃ KB : Nat → Int, Hid (KB = fun j => (placeOf (K j) n : Int)) := ⟨_, rfl⟩
  clear hn
  go_wp2_with fail
  refine (new_any w1 n HN.out.1.1 HN.out.1.2).mono ?_
  rintro e w2 ⟨b1, g1, l1, rfl, hc2, hf2, s1, s2, s3⟩
  have HC2 : Hid (CoAt w2 b1 g1 n l1 1 (newP n)) := hc2
  have HF2 : Hid (Fr (fun _ => False) w1 w2) := hf2
  have HS2 : Hid (w1.heap.size ≤ b1 ∧ w1.heap.size ≤ g1 ∧ w1.heap.size ≤ l1) := ⟨s1, s2, s3⟩
  clear hc2 hf2 s1 s2 s3
  go_wp2_with fail
  refine (new_any w2 n3 HN.out.2.1 HN.out.2.2).mono ?_
  rintro e w3 ⟨b2, g2, l2, rfl, hc3, hf3, t1, t2, t3⟩
  have HT3 : Hid (Two w1 w3 b1 g1 n l1 1 (runC n K LA 0) b2 g2 n3 l2 1 (runC n3 KB LB 0)) := by
    have x1 := HC2.out.lt
    have x2 := HC2.out.xlt
    have x3 := HC2.out.blt
    have hs := HS2.out
    have hz := HF2.out.size
    exact ⟨HC2.out.kept hf3 (fun hh => hh) (fun hh => hh) (fun hh => hh), hc3, HF2.out.trans hf3 (fun _ _ hh => hh), hs, ⟨by omega, by omega, by omega⟩, by omega⟩
  clear hc3 hf3 t1 t2 t3 HC2 HF2 HS2
  go_wp2_with fail
  refine (new_any w3 n HN.out.1.1 HN.out.1.2).mono ?_
  rintro e w4 ⟨b3, g3, l3, rfl, hc4, hf4, t1, t2, t3⟩
  have HT4 : Hid (Three w1 w4 b1 g1 n l1 1 (runC n K LA 0) b2 g2 n3 l2 1 (runC n3 KB LB 0) b3 g3 n l3 1 (runC n K LA 0)) := by
    have h12 := HT3.out.later hf4
    have x1 := HT3.out.at1.lt
    have x2 := HT3.out.at1.xlt
    have x3 := HT3.out.at1.blt
    have y1 := HT3.out.at2.lt
    have y2 := HT3.out.at2.xlt
    have y3 := HT3.out.at2.blt
    have hz := HT3.out.fr.size
    exact ⟨h12, ⟨h12.at1, hc4, h12.fr, h12.new1, ⟨by omega, by omega, by omega⟩, by omega⟩, ⟨h12.at2, hc4, h12.fr, h12.new2, ⟨by omega, by omega, by omega⟩, by omega⟩⟩
  clear hc4 hf4 t1 t2 t3 HT3
  go_wp2_with fail
  go_loopw [10] (fun i wr => ∃ (k l1' m1' l2' m2' : Nat), k ≤ nn ∧ k ≤ 2000 ∧ i = .int .i64 k ∧ Three w1 wr b1 g1 n l1' m1' (runC n K LA k) b2 g2 n3 l2' m2' (runC n3 KB LB k) b3 g3 n l3 1 (runC n K LA 0)) (fun i _ => 2000 - (intOf i).toNat)
  case atStart => exact ⟨0, l1, 1, l2, 1, Nat.zero_le _, Nat.zero_le _, rfl, HT4.out⟩
  case round =>
    obtain ⟨k, l1', m1', l2', m2', hk, hk2, rfl, htw⟩ := hrel
    have HTW : Hid (Three w1 wr b1 g1 n l1' m1' (runC n K LA k) b2 g2 n3 l2' m2' (runC n3 KB LB k) b3 g3 n l3 1 (runC n K LA 0)) := htw
    have cr := htw.t12.fr.cell c1 (fun hh => hh)
    clear htw
    by_cases hlt : k < nn ∧ k < 2000
    · obtain ⟨ha, hb⟩ := hlt
      obtain ⟨b, off, rfl, hcc⟩ := (HD.out.kept (HW1.out.trans HTW.out.t12.fr (fun _ _ hh => hh))).at_ (by omega)
      obtain ⟨cK, cD⟩ := hcc k ha
      obtain ⟨bK, bD⟩ := HD.out.bd k ha
      clear hcc
      rw [Nat.add_zero] at cK
      obtain ⟨kk, hkk⟩ : ∃ kk, kk = K k := ⟨_, rfl⟩
      obtain ⟨dd, hdd⟩ : ∃ dd, dd = D k := ⟨_, rfl⟩
      rw [← hkk] at cK bK
      rw [← hdd] at cD bD
      have HKD : Hid (kk = K k ∧ dd = D k) := ⟨hkk, hdd⟩
      have HBK : Hid (-9223372036854775808 ≤ kk ∧ kk ≤ 9223372036854775807) := bK
      clear hkk hdd bK bD
      have hand : bits BinOp.and IntKind.i64 dd 1 = (lowBit dd : Int) := lowBit_and dd
      obtain ⟨bit, HBIT⟩ : ∃ bit, Hid (bit = lowBit dd) := ⟨_, rfl⟩
      rw [← HBIT.out] at hand
      have hbit : bit < 2 := by rw [HBIT.out]; exact lowBit_lt dd
      have hsub : (1 : Int) - (bit : Int) = ((1 - bit : Nat) : Int) := by omega
      go_wp2_with fail
      refine (within_any kk n _ HBK.out hn1 (by omega)).mono ?_
      obtain ⟨x, HX⟩ : ∃ x, Hid (x = placeOf kk n) := ⟨_, rfl⟩
      have hx : x < n := by rw [HX.out]; exact placeOf_lt kk hn1
      rw [← HX.out]
      rintro e w5 ⟨rfl, hw5⟩
      subst hw5
      have HXI : Hid (-9223372036854775808 ≤ (x : Int) ∧ (x : Int) ≤ 9223372036854775807) := ⟨by omega, by omega⟩
      have HP1 : Hid (placeOf (x : Int) n = placeOf (K k) n) := by show _ = _; rw [placeOf_nat x n hx, HX.out, HKD.out.1]
      have HP2 : Hid (placeOf (x : Int) n3 = placeOf (KB k) n3) := by
        rw [HKB.out]
        show placeOf (x : Int) n3 = placeOf ((placeOf (K k) n : Nat) : Int) n3
        rw [← HKD.out.1, ← HX.out]
      have HA : Hid (bit = LA k) := by
        rw [HLA.out, HBIT.out, HKD.out.2]; exact rfl
      have HBB : Hid (1 - bit = LB k) := by
        rw [HLB.out, HBIT.out, HKD.out.2]; exact rfl
      go_wp2_with fail
      refine (run_put HN.out.1.1 HN.out.1.2 K LA (k := k) (by omega) (x : Int) HXI.out HP1.out bit HA.out hbit w5 b1 g1 l1' m1' HTW.out.t12.at1).mono ?_
      rintro e w6 ⟨rfl, l6, m6, hc6, hs6⟩
      have HT6 : Hid (Three w1 w6 b1 g1 n l6 m6 (runC n K LA (k + 1)) b2 g2 n3 l2' m2' (runC n3 KB LB k) b3 g3 n l3 1 (runC n K LA 0)) := HTW.out.step1 hc6 hs6
      clear hc6 hs6 cr cK cD
      go_wp2_with fail
      refine (run_put HN.out.2.1 HN.out.2.2 KB LB (k := k) (by omega) (x : Int) HXI.out HP2.out (1 - bit) HBB.out (by omega) w6 b2 g2 l2' m2' HT6.out.t12.at2).mono ?_
      rintro e w7 ⟨rfl, l7, m7, hc7, hs7⟩
      have HT7 : Hid (Three w1 w7 b1 g1 n l6 m6 (runC n K LA (k + 1)) b2 g2 n3 l7 m7 (runC n3 KB LB (k + 1)) b3 g3 n l3 1 (runC n K LA 0)) := HT6.out.step2 hc7 hs7
      clear hc7 hs7
      go_wp2_with fail
      refine (run_states HN.out.1.1 HN.out.1.2 K LA (k := k + 1) (by omega) w7 b1 g1 l6 m6 HT7.out.t12.at1).mono ?_
      rintro e w8 ⟨q8, rfl, hf8⟩
      have HT8 : Hid (Three w1 w8 b1 g1 n l6 m6 (runC n K LA (k + 1)) b2 g2 n3 l7 m7 (runC n3 KB LB (k + 1)) b3 g3 n l3 1 (runC n K LA 0)) := HT7.out.later hf8
      clear hf8
      go_wp2_with fail
      refine (run_states HN.out.2.1 HN.out.2.2 KB LB (k := k + 1) (by omega) w8 b2 g2 l7 m7 HT8.out.t12.at2).mono ?_
      rintro e w9 ⟨q9, rfl, hf9⟩
      have HT9 : Hid (Three w1 w9 b1 g1 n l6 m6 (runC n K LA (k + 1)) b2 g2 n3 l7 m7 (runC n3 KB LB (k + 1)) b3 g3 n l3 1 (runC n K LA 0)) := HT8.out.later hf9
      clear hf9
      have hbn : ((n3 : Int) != (n3 : Int)) = false := by simp
      have hbm : ((n : Int) != (n : Int)) = false := by simp
      go_wp2_with fail
      refine ⟨⟨k + 1, l6, m6, l7, m7, by omega, by omega, congrArg (Value.int .i64) (by omega), HT9.out⟩, by simp [intOf]; omega⟩
    · by_cases ha : k < nn
      · have hb : ¬ k < 2000 := by omega
        go_wp2_with fail
        clear cr
        go_loopw [13] (fun i wr => ∃ (j l3' m3' : Nat), j ≤ nn ∧ j ≤ 2000 ∧ i = .int .i64 j ∧ Three w1 wr b1 g1 n l1' m1' (runC n K LA k) b2 g2 n3 l2' m2' (runC n3 KB LB k) b3 g3 n l3' m3' (runC n K LA j)) (fun i _ => 2000 - (intOf i).toNat)
        case atStart => exact ⟨0, l3, 1, Nat.zero_le _, Nat.zero_le _, rfl, HTW.out⟩
        case round =>
          obtain ⟨j, l3', m3', hj, hj2, rfl, htj⟩ := hrel
          have HTJ : Hid (Three w1 wr b1 g1 n l1' m1' (runC n K LA k) b2 g2 n3 l2' m2' (runC n3 KB LB k) b3 g3 n l3' m3' (runC n K LA j)) := htj
          have crj := htj.t12.fr.cell c1 (fun hh => hh)
          clear htj
          by_cases hlt2 : j < nn ∧ j < 2000
          · obtain ⟨ja, jb⟩ := hlt2
            obtain ⟨b, off, rfl, hcc⟩ := (HD.out.kept (HW1.out.trans HTJ.out.t12.fr (fun _ _ hh => hh))).at_ (by omega)
            obtain ⟨cK, cD⟩ := hcc j ja
            obtain ⟨bK, bD⟩ := HD.out.bd j ja
            clear hcc
            rw [Nat.add_zero] at cK
            obtain ⟨kk, hkk⟩ : ∃ kk, kk = K j := ⟨_, rfl⟩
            obtain ⟨dd, hdd⟩ : ∃ dd, dd = D j := ⟨_, rfl⟩
            rw [← hkk] at cK bK
            rw [← hdd] at cD bD
            have HKD : Hid (kk = K j ∧ dd = D j) := ⟨hkk, hdd⟩
            have HBK : Hid (-9223372036854775808 ≤ kk ∧ kk ≤ 9223372036854775807) := bK
            clear hkk hdd bK bD
            have hand : bits BinOp.and IntKind.i64 dd 1 = (lowBit dd : Int) := lowBit_and dd
            obtain ⟨bit, HBIT⟩ : ∃ bit, Hid (bit = lowBit dd) := ⟨_, rfl⟩
            rw [← HBIT.out] at hand
            have hbit : bit < 2 := by rw [HBIT.out]; exact lowBit_lt dd
            obtain ⟨x, HX⟩ : ∃ x, Hid (x = placeOf kk n) := ⟨_, rfl⟩
            have hx : x < n := by rw [HX.out]; exact placeOf_lt kk hn1
            have HWI : Hid (∀ w', Calls Try.prog 4 #[.int .i64 kk, .int .i64 (n : Int)] w' fun e w'' => e = .returned (.int .i64 (x : Int)) ∧ w'' = w') := by
              intro w'
              have := within_any kk n w' HBK.out hn1 (by omega)
              rw [← HX.out] at this
              exact this
            have HPU : Hid (Calls Try.prog 6 #[.pointer (some ⟨b3, 0, none⟩), .int .i64 (x : Int), .int .i64 (bit : Int)] wr.drew fun e w' => e = .returned (.int .i64 0) ∧ ∃ l' m', CoAt w' b3 g3 n l' m' (runC n K LA (j + 1)) ∧ CStep b3 g3 l3' l' wr w') := by
              refine (run_put HN.out.1.1 HN.out.1.2 K LA (k := j) (by omega) (x : Int) ⟨by omega, by omega⟩ (by rw [placeOf_nat x n hx, HX.out, HKD.out.1]) bit (by rw [HLA.out, HBIT.out, HKD.out.2]) hbit wr.drew b3 g3 l3' m3' (HTJ.out.t13.at2.drewN 1)).mono ?_
              rintro e w' ⟨rfl, l', m', hc, hs⟩
              exact ⟨rfl, l', m', hc, ⟨((Fr.refl _ _).drew).trans hs.fr (fun _ _ hh => hh), hs.row⟩⟩
            have HKS : Hid (∀ w', Fr (fun _ => False) w1 w' → w'.cell? ⟨B, 1, none⟩ = some (.slice (some ⟨b, off, none⟩) nn cap) ∧ w'.cell? ⟨b, off + j * 2, none⟩ = some (.int .i64 kk) ∧ w'.cell? ⟨b, off + j * 2 + 1, none⟩ = some (.int .i64 dd)) := by
              intro w' f
              obtain ⟨b', off', e', hcc⟩ := (HD.out.kept (HW1.out.trans f (fun _ _ hh => hh))).at_ (by omega)
              simp only [Option.some.injEq, Addr.mk.injEq, and_true] at e'
              obtain ⟨rfl, rfl⟩ := e'
              obtain ⟨d1, d2⟩ := hcc j ja
              rw [Nat.add_zero, ← HKD.out.1] at d1
              rw [← HKD.out.2] at d2
              exact ⟨f.cell c1 (fun hh => hh), d1, d2⟩
            go_wp2_with fail
            go_region_held3 (fun w' => w'.cell? ⟨B, 1, none⟩ = some (.slice (some ⟨b, off, none⟩) nn cap) ∧ w'.cell? ⟨b, off + j * 2, none⟩ = some (.int .i64 kk) ∧ w'.cell? ⟨b, off + j * 2 + 1, none⟩ = some (.int .i64 dd)) (first | exact HKS.out _ (HTJ.out.t12.fr.drew) | exact HKS.out _ ((CStep.fresh HTJ.out.t12.fr hs8 HTJ.out.t13.new2).1)) (first | (go_at_call 6; refine HPU.out.mono ?_; rintro e w8 ⟨rfl, l8, m8, hc8, hs8⟩) | (go_at_call 4; refine (HWI.out _).mono ?_; rintro e w7 ⟨rfl, hw7⟩; subst hw7))
            have HT8 : Hid (Three w1 w8 b1 g1 n l1' m1' (runC n K LA k) b2 g2 n3 l2' m2' (runC n3 KB LB k) b3 g3 n l8 m8 (runC n K LA (j + 1))) := HTJ.out.step3 hc8 hs8
            clear hc8 hs8
            go_wp2_with fail
            refine ⟨⟨j + 1, l8, m8, by omega, by omega, congrArg (Value.int .i64) (by omega), HT8.out⟩, by simp [intOf]; omega⟩
          · have hjk : j = k := by omega
            subst hjk
            have HOK : Hid (Ook (runC n K LA j) ∧ (runC n K LA j).made = j ∧ (runC n K LA j).x.length = n) := runC_ok HN.out.1.1 HN.out.1.2 K LA j (by omega)
            go_wp2_with fail
            refine (flush_any wr b1 g1 n l1' m1' _ HTJ.out.t12.at1 HOK.out.1).mono ?_
            rintro e w4 ⟨q1, n1, cap1, rfl, hse1, hdo1, hst1, hq1, hq1'⟩
            have HC3 : Hid (CoAt w4 b3 g3 n l3' m3' (runC n K LA j)) := HTJ.out.t13.at2.kept hst1.fr (out3 HTJ.out.t13.apart.1.1 HTJ.out.t13.apart.2.1.1 HTJ.out.t13.apart.2.2.1) (out3 HTJ.out.t13.apart.1.2.1 HTJ.out.t13.apart.2.1.2.1 HTJ.out.t13.apart.2.2.2.1) (out3 HTJ.out.t13.apart.1.2.2 HTJ.out.t13.apart.2.1.2.2 HTJ.out.t13.apart.2.2.2.2)
            have HC2 : Hid (CoAt w4 b2 g2 n3 l2' m2' (runC n3 KB LB j)) := HTJ.out.t12.at2.kept hst1.fr (out3 HTJ.out.t12.apart.1.1 HTJ.out.t12.apart.2.1.1 HTJ.out.t12.apart.2.2.1) (out3 HTJ.out.t12.apart.1.2.1 HTJ.out.t12.apart.2.1.2.1 HTJ.out.t12.apart.2.2.2.1) (out3 HTJ.out.t12.apart.1.2.2 HTJ.out.t12.apart.2.1.2.2 HTJ.out.t12.apart.2.2.2.2)
            have HSE1 : Hid (SeenAt w4 (.slice (some ⟨q1, 1, none⟩) n1 cap1) (flushP (runC n K LA j).s)) := hse1
            have HF4 : Hid (Fr (fun _ => False) w1 w4) := (CStep.fresh HTJ.out.t12.fr hst1 HTJ.out.t12.new1).1
            have HAP : Hid (b3 ≠ q1 ∧ g3 ≠ q1 ∧ l3' ≠ q1) := by
              have a1 := HTJ.out.t13.at2.lt
              have a2 := HTJ.out.t13.at2.xlt
              have a3 := HTJ.out.t13.at2.blt
              have a := HTJ.out.t13.apart.2.2
              rcases hst1.row with e | e
              · rw [e]; exact ⟨Ne.symm a.1, Ne.symm a.2.1, Ne.symm a.2.2⟩
              · exact ⟨by omega, by omega, by omega⟩
            clear hse1 hdo1 hst1 hq1 hq1'
            go_wp2_with fail
            refine (flush_any w4 b3 g3 n l3' m3' _ HC3.out HOK.out.1).mono ?_
            rintro e w5 ⟨q2, n2, cap2, rfl, hse2, hdo2, hst2, hq2, hq2'⟩
            have HSE1b : Hid (SeenAt w5 (.slice (some ⟨q1, 1, none⟩) n1 cap1) (flushP (runC n K LA j).s)) := HSE1.out.kept hst2.fr (fun j hj => by simp [Value.ownBlock] at hj; subst hj; exact out3 HAP.out.1 HAP.out.2.1 HAP.out.2.2)
            have HSE2 : Hid (SeenAt w5 (.slice (some ⟨q2, 1, none⟩) n2 cap2) (flushP (runC n K LA j).s)) := hse2
            have HC2b : Hid (CoAt w5 b2 g2 n3 l2' m2' (runC n3 KB LB j)) := HC2.out.kept hst2.fr (out3 (Ne.symm HTJ.out.t23.apart.1.1) (Ne.symm HTJ.out.t23.apart.1.2.1) (Ne.symm HTJ.out.t23.apart.1.2.2)) (out3 (Ne.symm HTJ.out.t23.apart.2.1.1) (Ne.symm HTJ.out.t23.apart.2.1.2.1) (Ne.symm HTJ.out.t23.apart.2.1.2.2)) (out3 (Ne.symm HTJ.out.t23.apart.2.2.1) (Ne.symm HTJ.out.t23.apart.2.2.2.1) (Ne.symm HTJ.out.t23.apart.2.2.2.2))
            have HF5 : Hid (Fr (fun _ => False) w w5) := HW1.out.trans (CStep.fresh HF4.out hst2 HTJ.out.t13.new2).1 (fun _ _ hh => hh)
            clear hse2 hdo2 hst2 hq2 hq2' HSE1 HF4 HAP HC2 HC3 c1 crj HTW HTJ HT4
            have HE1 : Hid (∀ w', Fr (fun _ => False) w5 w' → Calls Try.prog 9 #[.slice (some ⟨q1, 1, none⟩) n1 cap1, .slice (some ⟨q2, 1, none⟩) n2 cap2] w' fun e w'' => e = .returned (.bool true) ∧ Fr (fun _ => False) w' w'') := by
              intro w' f
              refine (eq_any _ _ _ _ w' (HSE1b.out.kept f (fun _ _ hh => hh)) (HSE2.out.kept f (fun _ _ hh => hh))).mono ?_
              rintro e w'' ⟨rfl, q, rfl⟩
              exact ⟨by rw [decide_eq_true rfl], (Fr.refl _ _).drewN q⟩
            have HCT : Hid (∀ w', Fr (fun _ => False) w5 w' → Calls Try.prog 10 #[.pointer (some ⟨b2, 0, none⟩)] w' fun e w'' => e = .returned (.int .i64 (n3 : Int)) ∧ Fr (fun _ => False) w' w'') := by
              intro w' f
              have hc := HC2b.out.kept f (fun hh => hh) (fun hh => hh) (fun hh => hh)
              obtain ⟨r1, r2, r3⟩ := runC_ok HN.out.2.1 HN.out.2.2 KB LB j (by omega)
              have e0 := (cell_of_seven hc.blk).1
              rw [r3] at e0
              refine (contexts_at w' b2 g2 n3 n3 e0 HN.out.2.2).mono ?_
              rintro e w'' ⟨rfl, rfl⟩
              exact ⟨rfl, Fr.refl _ _⟩
            have hbq : ((n3 : Int) == (n3 : Int)) = true := by simp
            clear HSE1b HSE2 HC2b HOK
            go_wp2_with fail
            refine (HE1.out w5 (Fr.refl _ _)).mono ?_
            rintro e w6 ⟨rfl, hf6⟩
            go_wp2_with fail
            refine (HCT.out w6 hf6).mono ?_
            rintro e w7 ⟨rfl, hf7⟩
            go_wp2_with fail
            refine (wakes_any w7).mono ?_
            rintro e w8 ⟨rfl, hf8⟩
            go_wp2_with fail
            go_ret
            exact ⟨rfl, ((HF5.out.trans hf6 (fun _ _ hh => hh)).trans hf7 (fun _ _ hh => hh)).trans hf8 (fun _ _ hh => hh)⟩
      · go_wp2_with fail
        clear cr
        go_loopw [13] (fun i wr => ∃ (j l3' m3' : Nat), j ≤ nn ∧ j ≤ 2000 ∧ i = .int .i64 j ∧ Three w1 wr b1 g1 n l1' m1' (runC n K LA k) b2 g2 n3 l2' m2' (runC n3 KB LB k) b3 g3 n l3' m3' (runC n K LA j)) (fun i _ => 2000 - (intOf i).toNat)
        case atStart => exact ⟨0, l3, 1, Nat.zero_le _, Nat.zero_le _, rfl, HTW.out⟩
        case round =>
          obtain ⟨j, l3', m3', hj, hj2, rfl, htj⟩ := hrel
          have HTJ : Hid (Three w1 wr b1 g1 n l1' m1' (runC n K LA k) b2 g2 n3 l2' m2' (runC n3 KB LB k) b3 g3 n l3' m3' (runC n K LA j)) := htj
          have crj := htj.t12.fr.cell c1 (fun hh => hh)
          clear htj
          by_cases hlt2 : j < nn ∧ j < 2000
          · obtain ⟨ja, jb⟩ := hlt2
            obtain ⟨b, off, rfl, hcc⟩ := (HD.out.kept (HW1.out.trans HTJ.out.t12.fr (fun _ _ hh => hh))).at_ (by omega)
            obtain ⟨cK, cD⟩ := hcc j ja
            obtain ⟨bK, bD⟩ := HD.out.bd j ja
            clear hcc
            rw [Nat.add_zero] at cK
            obtain ⟨kk, hkk⟩ : ∃ kk, kk = K j := ⟨_, rfl⟩
            obtain ⟨dd, hdd⟩ : ∃ dd, dd = D j := ⟨_, rfl⟩
            rw [← hkk] at cK bK
            rw [← hdd] at cD bD
            have HKD : Hid (kk = K j ∧ dd = D j) := ⟨hkk, hdd⟩
            have HBK : Hid (-9223372036854775808 ≤ kk ∧ kk ≤ 9223372036854775807) := bK
            clear hkk hdd bK bD
            have hand : bits BinOp.and IntKind.i64 dd 1 = (lowBit dd : Int) := lowBit_and dd
            obtain ⟨bit, HBIT⟩ : ∃ bit, Hid (bit = lowBit dd) := ⟨_, rfl⟩
            rw [← HBIT.out] at hand
            have hbit : bit < 2 := by rw [HBIT.out]; exact lowBit_lt dd
            obtain ⟨x, HX⟩ : ∃ x, Hid (x = placeOf kk n) := ⟨_, rfl⟩
            have hx : x < n := by rw [HX.out]; exact placeOf_lt kk hn1
            have HWI : Hid (∀ w', Calls Try.prog 4 #[.int .i64 kk, .int .i64 (n : Int)] w' fun e w'' => e = .returned (.int .i64 (x : Int)) ∧ w'' = w') := by
              intro w'
              have := within_any kk n w' HBK.out hn1 (by omega)
              rw [← HX.out] at this
              exact this
            have HPU : Hid (Calls Try.prog 6 #[.pointer (some ⟨b3, 0, none⟩), .int .i64 (x : Int), .int .i64 (bit : Int)] wr.drew fun e w' => e = .returned (.int .i64 0) ∧ ∃ l' m', CoAt w' b3 g3 n l' m' (runC n K LA (j + 1)) ∧ CStep b3 g3 l3' l' wr w') := by
              refine (run_put HN.out.1.1 HN.out.1.2 K LA (k := j) (by omega) (x : Int) ⟨by omega, by omega⟩ (by rw [placeOf_nat x n hx, HX.out, HKD.out.1]) bit (by rw [HLA.out, HBIT.out, HKD.out.2]) hbit wr.drew b3 g3 l3' m3' (HTJ.out.t13.at2.drewN 1)).mono ?_
              rintro e w' ⟨rfl, l', m', hc, hs⟩
              exact ⟨rfl, l', m', hc, ⟨((Fr.refl _ _).drew).trans hs.fr (fun _ _ hh => hh), hs.row⟩⟩
            have HKS : Hid (∀ w', Fr (fun _ => False) w1 w' → w'.cell? ⟨B, 1, none⟩ = some (.slice (some ⟨b, off, none⟩) nn cap) ∧ w'.cell? ⟨b, off + j * 2, none⟩ = some (.int .i64 kk) ∧ w'.cell? ⟨b, off + j * 2 + 1, none⟩ = some (.int .i64 dd)) := by
              intro w' f
              obtain ⟨b', off', e', hcc⟩ := (HD.out.kept (HW1.out.trans f (fun _ _ hh => hh))).at_ (by omega)
              simp only [Option.some.injEq, Addr.mk.injEq, and_true] at e'
              obtain ⟨rfl, rfl⟩ := e'
              obtain ⟨d1, d2⟩ := hcc j ja
              rw [Nat.add_zero, ← HKD.out.1] at d1
              rw [← HKD.out.2] at d2
              exact ⟨f.cell c1 (fun hh => hh), d1, d2⟩
            go_wp2_with fail
            go_region_held3 (fun w' => w'.cell? ⟨B, 1, none⟩ = some (.slice (some ⟨b, off, none⟩) nn cap) ∧ w'.cell? ⟨b, off + j * 2, none⟩ = some (.int .i64 kk) ∧ w'.cell? ⟨b, off + j * 2 + 1, none⟩ = some (.int .i64 dd)) (first | exact HKS.out _ (HTJ.out.t12.fr.drew) | exact HKS.out _ ((CStep.fresh HTJ.out.t12.fr hs8 HTJ.out.t13.new2).1)) (first | (go_at_call 6; refine HPU.out.mono ?_; rintro e w8 ⟨rfl, l8, m8, hc8, hs8⟩) | (go_at_call 4; refine (HWI.out _).mono ?_; rintro e w7 ⟨rfl, hw7⟩; subst hw7))
            have HT8 : Hid (Three w1 w8 b1 g1 n l1' m1' (runC n K LA k) b2 g2 n3 l2' m2' (runC n3 KB LB k) b3 g3 n l8 m8 (runC n K LA (j + 1))) := HTJ.out.step3 hc8 hs8
            clear hc8 hs8
            go_wp2_with fail
            refine ⟨⟨j + 1, l8, m8, by omega, by omega, congrArg (Value.int .i64) (by omega), HT8.out⟩, by simp [intOf]; omega⟩
          · have hjk : j = k := by omega
            subst hjk
            have HOK : Hid (Ook (runC n K LA j) ∧ (runC n K LA j).made = j ∧ (runC n K LA j).x.length = n) := runC_ok HN.out.1.1 HN.out.1.2 K LA j (by omega)
            go_wp2_with fail
            refine (flush_any wr b1 g1 n l1' m1' _ HTJ.out.t12.at1 HOK.out.1).mono ?_
            rintro e w4 ⟨q1, n1, cap1, rfl, hse1, hdo1, hst1, hq1, hq1'⟩
            have HC3 : Hid (CoAt w4 b3 g3 n l3' m3' (runC n K LA j)) := HTJ.out.t13.at2.kept hst1.fr (out3 HTJ.out.t13.apart.1.1 HTJ.out.t13.apart.2.1.1 HTJ.out.t13.apart.2.2.1) (out3 HTJ.out.t13.apart.1.2.1 HTJ.out.t13.apart.2.1.2.1 HTJ.out.t13.apart.2.2.2.1) (out3 HTJ.out.t13.apart.1.2.2 HTJ.out.t13.apart.2.1.2.2 HTJ.out.t13.apart.2.2.2.2)
            have HC2 : Hid (CoAt w4 b2 g2 n3 l2' m2' (runC n3 KB LB j)) := HTJ.out.t12.at2.kept hst1.fr (out3 HTJ.out.t12.apart.1.1 HTJ.out.t12.apart.2.1.1 HTJ.out.t12.apart.2.2.1) (out3 HTJ.out.t12.apart.1.2.1 HTJ.out.t12.apart.2.1.2.1 HTJ.out.t12.apart.2.2.2.1) (out3 HTJ.out.t12.apart.1.2.2 HTJ.out.t12.apart.2.1.2.2 HTJ.out.t12.apart.2.2.2.2)
            have HSE1 : Hid (SeenAt w4 (.slice (some ⟨q1, 1, none⟩) n1 cap1) (flushP (runC n K LA j).s)) := hse1
            have HF4 : Hid (Fr (fun _ => False) w1 w4) := (CStep.fresh HTJ.out.t12.fr hst1 HTJ.out.t12.new1).1
            have HAP : Hid (b3 ≠ q1 ∧ g3 ≠ q1 ∧ l3' ≠ q1) := by
              have a1 := HTJ.out.t13.at2.lt
              have a2 := HTJ.out.t13.at2.xlt
              have a3 := HTJ.out.t13.at2.blt
              have a := HTJ.out.t13.apart.2.2
              rcases hst1.row with e | e
              · rw [e]; exact ⟨Ne.symm a.1, Ne.symm a.2.1, Ne.symm a.2.2⟩
              · exact ⟨by omega, by omega, by omega⟩
            clear hse1 hdo1 hst1 hq1 hq1'
            go_wp2_with fail
            refine (flush_any w4 b3 g3 n l3' m3' _ HC3.out HOK.out.1).mono ?_
            rintro e w5 ⟨q2, n2, cap2, rfl, hse2, hdo2, hst2, hq2, hq2'⟩
            have HSE1b : Hid (SeenAt w5 (.slice (some ⟨q1, 1, none⟩) n1 cap1) (flushP (runC n K LA j).s)) := HSE1.out.kept hst2.fr (fun j hj => by simp [Value.ownBlock] at hj; subst hj; exact out3 HAP.out.1 HAP.out.2.1 HAP.out.2.2)
            have HSE2 : Hid (SeenAt w5 (.slice (some ⟨q2, 1, none⟩) n2 cap2) (flushP (runC n K LA j).s)) := hse2
            have HC2b : Hid (CoAt w5 b2 g2 n3 l2' m2' (runC n3 KB LB j)) := HC2.out.kept hst2.fr (out3 (Ne.symm HTJ.out.t23.apart.1.1) (Ne.symm HTJ.out.t23.apart.1.2.1) (Ne.symm HTJ.out.t23.apart.1.2.2)) (out3 (Ne.symm HTJ.out.t23.apart.2.1.1) (Ne.symm HTJ.out.t23.apart.2.1.2.1) (Ne.symm HTJ.out.t23.apart.2.1.2.2)) (out3 (Ne.symm HTJ.out.t23.apart.2.2.1) (Ne.symm HTJ.out.t23.apart.2.2.2.1) (Ne.symm HTJ.out.t23.apart.2.2.2.2))
            have HF5 : Hid (Fr (fun _ => False) w w5) := HW1.out.trans (CStep.fresh HF4.out hst2 HTJ.out.t13.new2).1 (fun _ _ hh => hh)
            clear hse2 hdo2 hst2 hq2 hq2' HSE1 HF4 HAP HC2 HC3 c1 crj HTW HTJ HT4
            have HE1 : Hid (∀ w', Fr (fun _ => False) w5 w' → Calls Try.prog 9 #[.slice (some ⟨q1, 1, none⟩) n1 cap1, .slice (some ⟨q2, 1, none⟩) n2 cap2] w' fun e w'' => e = .returned (.bool true) ∧ Fr (fun _ => False) w' w'') := by
              intro w' f
              refine (eq_any _ _ _ _ w' (HSE1b.out.kept f (fun _ _ hh => hh)) (HSE2.out.kept f (fun _ _ hh => hh))).mono ?_
              rintro e w'' ⟨rfl, q, rfl⟩
              exact ⟨by rw [decide_eq_true rfl], (Fr.refl _ _).drewN q⟩
            have HCT : Hid (∀ w', Fr (fun _ => False) w5 w' → Calls Try.prog 10 #[.pointer (some ⟨b2, 0, none⟩)] w' fun e w'' => e = .returned (.int .i64 (n3 : Int)) ∧ Fr (fun _ => False) w' w'') := by
              intro w' f
              have hc := HC2b.out.kept f (fun hh => hh) (fun hh => hh) (fun hh => hh)
              obtain ⟨r1, r2, r3⟩ := runC_ok HN.out.2.1 HN.out.2.2 KB LB j (by omega)
              have e0 := (cell_of_seven hc.blk).1
              rw [r3] at e0
              refine (contexts_at w' b2 g2 n3 n3 e0 HN.out.2.2).mono ?_
              rintro e w'' ⟨rfl, rfl⟩
              exact ⟨rfl, Fr.refl _ _⟩
            have hbq : ((n3 : Int) == (n3 : Int)) = true := by simp
            clear HSE1b HSE2 HC2b HOK
            go_wp2_with fail
            refine (HE1.out w5 (Fr.refl _ _)).mono ?_
            rintro e w6 ⟨rfl, hf6⟩
            go_wp2_with fail
            refine (HCT.out w6 hf6).mono ?_
            rintro e w7 ⟨rfl, hf7⟩
            go_wp2_with fail
            refine (wakes_any w7).mono ?_
            rintro e w8 ⟨rfl, hf8⟩
            go_wp2_with fail
            go_ret
            exact ⟨rfl, ((HF5.out.trans hf6 (fun _ _ hh => hh)).trans hf7 (fun _ _ hh => hh)).trans hf8 (fun _ _ hh => hh)⟩

end Go.Proofs.Ytdbblgceeclpaab
