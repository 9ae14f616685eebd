/- 'BitmapBlits' returns true. -/
import Derived.Test.YtcopbjinnegfoaaSmallish
import Derived.Test.YtcopbjinnegfoaaMay
import Derived.Test.YtcopbjinnegfoaaFrom
import Derived.Test.YtcopbjinnegfoaaRef
import Derived.Test.YtcopbjinnegfoaaRefGet
import Derived.Test.YtcopbjinnegfoaaWakes
namespace Go.Proofs.Ytcopbjinnegfoaa
open Go.RowKit

theorem tmod_bd (i : Int) (n : Nat) (h1 : 1 ≤ n) : -(n : Int) < i.tmod n ∧ i.tmod n < n := by
  have hpos : 0 < (n : Int) := by omega
  rcases Int.le_total 0 i with h | h
  · rw [Int.tmod_eq_emod_of_nonneg h]
    have a1 := Int.emod_nonneg i (show (n : Int) ≠ 0 by omega)
    have a2 := Int.emod_lt_of_pos i hpos
    omega
  · have e : i.tmod n = -((-i) % n) := by
      rw [← Int.tmod_eq_emod_of_nonneg (show 0 ≤ -i by omega), Int.neg_tmod]; omega
    have a1 := Int.emod_nonneg (-i) (show (n : Int) ≠ 0 by omega)
    have a2 := Int.emod_lt_of_pos (-i) hpos
    omega

set_option maxRecDepth 100000 in
set_option maxHeartbeats 4000000 in
theorem blits_any (x y x2 y2 n0 n1 n2 n3 n4 n5 n6 n7 : Int) (v v2 : Value) (l l2 : List Nat) (w : World) (hx : -9223372036854775808 ≤ x ∧ x ≤ 9223372036854775807) (hy : -9223372036854775808 ≤ y ∧ y ≤ 9223372036854775807) (hv : Seen w v l) (hlt : ∀ j : Nat, l[j]?.getD 0 < 18446744073709551616)
    (hx2 : -9223372036854775808 ≤ x2 ∧ x2 ≤ 9223372036854775807) (hy2 : -9223372036854775808 ≤ y2 ∧ y2 ≤ 9223372036854775807) (hv2 : Seen w v2 l2) (hlt2 : ∀ j : Nat, l2[j]?.getD 0 < 18446744073709551616)
    (b4 : -9223372036854775808 ≤ n4 ∧ n4 ≤ 9223372036854775807) (b5 : -9223372036854775808 ≤ n5 ∧ n5 ≤ 9223372036854775807) (b6 : -9223372036854775808 ≤ n6 ∧ n6 ≤ 9223372036854775807) :
    Calls Try.prog 4 #[.agg #[.int .i64 x, .int .i64 y, v, .int .i64 x2, .int .i64 y2, v2, .int .i64 n0, .int .i64 n1, .int .i64 n2, .int .i64 n3, .int .i64 n4, .int .i64 n5, .int .i64 n6, .int .i64 n7]] w fun e w' => e = .returned (.bool true) ∧ Fr (fun _ => False) w w' := by
  have HMY : Hid (∀ w', Fr (fun _ => False) w w' → Calls Try.prog 14 #[.agg #[.int .i64 x, .int .i64 y, v]] w' fun e w'' => e = .returned (.bool (validB x y l)) ∧ Fr (fun _ => False) w' w'') := fun w' hf => may_any x y v l w' hx hy (hv.kept hf) hlt
  have HMY2 : Hid (∀ w', Fr (fun _ => False) w w' → Calls Try.prog 14 #[.agg #[.int .i64 x2, .int .i64 y2, v2]] w' fun e w'' => e = .returned (.bool (validB x2 y2 l2)) ∧ Fr (fun _ => False) w' w'') := fun w' hf => may_any x2 y2 v2 l2 w' hx2 hy2 (hv2.kept hf) hlt2
  have HV : Hid (Seen w v l) := hv
  have HLT : Hid (∀ j : Nat, l[j]?.getD 0 < 18446744073709551616) := hlt
  have HV2 : Hid (Seen w v2 l2) := hv2
  have HLT2 : Hid (∀ j : Nat, l2[j]?.getD 0 < 18446744073709551616) := hlt2
  obtain ⟨ao, cap, hve, hll, _⟩ := hv
  obtain ⟨ao2, cap2, hve2, hll2, _⟩ := hv2
  clear hlt hlt2
  subst hve
  subst hve2
  generalize l.length = n at *
  generalize l2.length = nn at *
  have HBX : Hid (∀ w' : World, Fr (fun _ => False) (w.alloc (.cells #[.int .i64 x, .int .i64 y, .slice ao n cap, .int .i64 x2, .int .i64 y2, .slice ao2 nn cap2, .int .i64 n0, .int .i64 n1, .int .i64 n2, .int .i64 n3, .int .i64 n4, .int .i64 n5, .int .i64 n6, .int .i64 n7] 40)) w' → ((w'.cell? ⟨w.heap.size, 0, none⟩ = some (.int .i64 x) ∧ w'.cell? ⟨w.heap.size, 1, none⟩ = some (.int .i64 y) ∧ w'.cell? ⟨w.heap.size, 2, none⟩ = some (.slice ao n cap)) ∧ w'.cell? ⟨w.heap.size, 3, none⟩ = some (.int .i64 x2) ∧ w'.cell? ⟨w.heap.size, 4, none⟩ = some (.int .i64 y2) ∧ w'.cell? ⟨w.heap.size, 5, none⟩ = some (.slice ao2 nn cap2)) ∧ (w'.cell? ⟨w.heap.size, 6, none⟩ = some (.int .i64 n0) ∧ w'.cell? ⟨w.heap.size, 7, none⟩ = some (.int .i64 n1) ∧ w'.cell? ⟨w.heap.size, 8, none⟩ = some (.int .i64 n2) ∧ w'.cell? ⟨w.heap.size, 9, none⟩ = some (.int .i64 n3) ∧ w'.cell? ⟨w.heap.size, 10, none⟩ = some (.int .i64 n4) ∧ w'.cell? ⟨w.heap.size, 11, none⟩ = some (.int .i64 n5) ∧ w'.cell? ⟨w.heap.size, 12, none⟩ = some (.int .i64 n6) ∧ w'.cell? ⟨w.heap.size, 13, none⟩ = some (.int .i64 n7))) := fun w' hf => by
    have hB : w'.heap[w.heap.size]? = some (.cells #[.int .i64 x, .int .i64 y, .slice ao n cap, .int .i64 x2, .int .i64 y2, .slice ao2 nn cap2, .int .i64 n0, .int .i64 n1, .int .i64 n2, .int .i64 n3, .int .i64 n4, .int .i64 n5, .int .i64 n6, .int .i64 n7] 40 (0, 0)) := by
      rw [hf.block _ (by simp) (fun hh => hh)]; exact heap_alloc_new _ _
    refine ⟨⟨⟨?_, ?_, ?_⟩, ?_, ?_, ?_⟩, ?_, ?_, ?_, ?_, ?_, ?_, ?_, ?_⟩ <;> (unfold World.cell?; rw [hB]; rfl)
  go_enter Try.func4, Try.ntmps4
  go_wp2_with fail
  refine (HMY.out _ ((Fr.refl _ _).alloc _)).mono ?_
  rintro e w1 ⟨rfl, hf1⟩
  have HF1 : Hid (Fr (fun _ => False) (w.alloc (.cells #[.int .i64 x, .int .i64 y, .slice ao n cap, .int .i64 x2, .int .i64 y2, .slice ao2 nn cap2, .int .i64 n0, .int .i64 n1, .int .i64 n2, .int .i64 n3, .int .i64 n4, .int .i64 n5, .int .i64 n6, .int .i64 n7] 40)) w1) := hf1
  have HW1 : Hid (Fr (fun _ => False) w w1) := ((Fr.refl _ _).alloc _).trans hf1 (fun _ _ hh => hh)
  obtain ⟨⟨⟨k0, k1, k2⟩, k3, k4, k5⟩, _⟩ := HBX.out w1 hf1
  clear hf1
  rcases hvb : validB x y l with _ | _
  · go_wp2_with fail
    refine (wakes_any _).mono ?_
    rintro e w9 ⟨rfl, hf9⟩
    have HF9 : Hid (Fr (fun _ => False) w w9) := HW1.out.trans hf9 (fun _ _ hh => hh)
    clear hf9
    go_wp2_with fail
    go_ret
    exact ⟨rfl, HF9.out⟩
  · go_wp2_with fail
    refine (HMY2.out _ HW1.out).mono ?_
    rintro e w2 ⟨rfl, hf2⟩
    have HF2 : Hid (Fr (fun _ => False) (w.alloc (.cells #[.int .i64 x, .int .i64 y, .slice ao n cap, .int .i64 x2, .int .i64 y2, .slice ao2 nn cap2, .int .i64 n0, .int .i64 n1, .int .i64 n2, .int .i64 n3, .int .i64 n4, .int .i64 n5, .int .i64 n6, .int .i64 n7] 40)) w2) := HF1.out.trans hf2 (fun _ _ hh => hh)
    have HW2 : Hid (Fr (fun _ => False) w w2) := HW1.out.trans hf2 (fun _ _ hh => hh)
    clear hf2 k0 k1 k2 k3 k4 k5 HF1 HW1
    obtain ⟨⟨⟨k0, k1, k2⟩, k3, k4, k5⟩, _⟩ := HBX.out w2 HF2.out
    rcases hvb2 : validB x2 y2 l2 with _ | _
    · go_wp2_with fail
      refine (wakes_any _).mono ?_
      rintro e w9 ⟨rfl, hf9⟩
      have HF9 : Hid (Fr (fun _ => False) w w9) := HW2.out.trans hf9 (fun _ _ hh => hh)
      clear hf9
      go_wp2_with fail
      go_ret
      exact ⟨rfl, HF9.out⟩
    · obtain ⟨W, H, rfl, rfl, h1, h2, h3, hl, hr⟩ := valid_parts hvb
      obtain ⟨Ws, Hs, rfl, rfl, h4, h5, h6, hl2, hr2⟩ := valid_parts hvb2
      obtain ⟨f1, f2, f3⟩ := size_facts h1 h2 h3
      obtain ⟨f4, f5, f6⟩ := size_facts h4 h5 h6
      have HFR : Hid (∀ w', Fr (fun _ => False) w w' → Calls Try.prog 16 #[.agg #[.int .i64 W, .int .i64 H, .slice ao n cap]] w' fun e w'' => ∃ b g cap, e = .returned (.tuple #[.pointer (some ⟨b, 0, none⟩), .int .i64 0]) ∧ NewMap w' w'' b g cap W H (pixOf W l)) := fun w' hf => from_yes W H _ l w' h1 h2 h3 (HV.out.kept hf) HLT.out hl hr
      have HFR2 : Hid (∀ w', Fr (fun _ => False) w w' → Calls Try.prog 16 #[.agg #[.int .i64 Ws, .int .i64 Hs, .slice ao2 nn cap2]] w' fun e w'' => ∃ b g cap, e = .returned (.tuple #[.pointer (some ⟨b, 0, none⟩), .int .i64 0]) ∧ NewMap w' w'' b g cap Ws Hs (pixOf Ws l2)) := fun w' hf => from_yes Ws Hs _ l2 w' h4 h5 h6 (HV2.out.kept hf) HLT2.out hl2 hr2
      have hrn : l = render W H (pixOf W l) := valid_render W H l h1 hl hr HLT.out
      have hrn2 : l2 = render Ws Hs (pixOf Ws l2) := valid_render Ws Hs l2 h4 hl2 hr2 HLT2.out
      have HSA : Hid (∀ (b g c : Nat) w', Fr (fun _ => False) w w' → MapAt w' b g c Ws Hs (pixOf Ws l2) → Calls Try.prog 19 #[.pointer (some ⟨b, 0, none⟩), .agg #[.int .i64 Ws, .int .i64 Hs, .slice ao2 nn cap2]] w' fun e w'' => e = .returned (.bool true) ∧ Fr (fun _ => False) w' w'') := fun b g c w' hf hm => by
        have := same_any b g c Ws Hs (pixOf Ws l2) Ws Hs _ l2 w' hm (HV2.out.kept hf)
        have hsb : sameB Ws Hs (pixOf Ws l2) Ws Hs l2 = true := by
          unfold sameB eqB
          rw [← hrn2]
          simp
        rw [hsb] at this
        exact this
      have HZ : Hid (∀ (a b : Nat) (w' : World), Fr (fun _ => False) w w' → a < W → b < H → Calls Try.prog 20 #[.agg #[.int .i64 W, .int .i64 H, .slice ao n cap], .int .i64 a, .int .i64 b] w' fun e w'' => e = .returned (.int .i64 ((pixOf W l a b).toNat : Nat)) ∧ Fr (fun _ => False) w' w'') := fun a b w' hf ha hb => zget_in W H _ (pixOf W l) a b w' (by rw [← hrn]; exact HV.out.kept hf) h1 h2 h3 ha hb
      have HZ2 : Hid (∀ (a b : Nat) (w' : World), Fr (fun _ => False) w w' → a < Ws → b < Hs → Calls Try.prog 20 #[.agg #[.int .i64 Ws, .int .i64 Hs, .slice ao2 nn cap2], .int .i64 a, .int .i64 b] w' fun e w'' => e = .returned (.int .i64 ((pixOf Ws l2 a b).toNat : Nat)) ∧ Fr (fun _ => False) w' w'') := fun a b w' hf ha hb => zget_in Ws Hs _ (pixOf Ws l2) a b w' (by rw [← hrn2]; exact HV2.out.kept hf) h4 h5 h6 ha hb
      clear hrn hrn2 h1 h2 h3 h4 h5 h6 hl hr hl2 hr2 f3 f6 hx hy hx2 hy2 hvb hvb2 HMY HMY2 HLT HLT2
      generalize pixOf W l = P at *
      generalize pixOf Ws l2 = Ps at *
      go_wp2_with fail
      refine (small_any w2.heap.size 0 2 2 60000 _ (by omega) ?_).mono ?_
      · intro i hi
        rcases (show i = 0 ∨ i = 1 from by omega) with rfl | rfl
        · refine ⟨ao, n, cap, ?_⟩
          have := heap_alloc_new w2 (.cells #[.int .i64 W, .int .i64 H, .slice ao n cap, .int .i64 Ws, .int .i64 Hs, .slice ao2 nn cap2] 37)
          unfold World.cell?
          rw [this]; rfl
        · refine ⟨ao2, nn, cap2, ?_⟩
          have := heap_alloc_new w2 (.cells #[.int .i64 W, .int .i64 H, .slice ao n cap, .int .i64 Ws, .int .i64 Hs, .slice ao2 nn cap2] 37)
          unfold World.cell?
          rw [this]; rfl
      rintro e w3 ⟨bb, rfl, q2, hw3⟩
      have HF3 : Hid (Fr (fun _ => False) (w.alloc (.cells #[.int .i64 W, .int .i64 H, .slice ao n cap, .int .i64 Ws, .int .i64 Hs, .slice ao2 nn cap2, .int .i64 n0, .int .i64 n1, .int .i64 n2, .int .i64 n3, .int .i64 n4, .int .i64 n5, .int .i64 n6, .int .i64 n7] 40)) w3) := by rw [hw3]; exact (HF2.out.alloc _).drewN q2
      have HW3 : Hid (Fr (fun _ => False) w w3) := by rw [hw3]; exact (HW2.out.alloc _).drewN q2
      clear hw3 HF2 HW2 k0 k1 k2 k3 k4 k5
      obtain ⟨⟨⟨k0, k1, k2⟩, k3, k4, k5⟩, _⟩ := HBX.out w3 HF3.out
      cases bb
      · go_wp2_with fail
        refine (wakes_any _).mono ?_
        rintro e w9 ⟨rfl, hf9⟩
        have HF9 : Hid (Fr (fun _ => False) w w9) := HW3.out.trans hf9 (fun _ _ hh => hh)
        clear hf9
        go_wp2_with fail
        go_ret
        exact ⟨rfl, HF9.out⟩
      · go_wp2_with fail
        refine (HFR.out _ HW3.out).mono ?_
        rintro e w4 ⟨ba, ga, ca, rfl, hn4⟩
        have HA4 : Hid (MapAt w4 ba ga ca W H P) := hn4.at_
        have HF4 : Hid (Fr (fun _ => False) (w.alloc (.cells #[.int .i64 W, .int .i64 H, .slice ao n cap, .int .i64 Ws, .int .i64 Hs, .slice ao2 nn cap2, .int .i64 n0, .int .i64 n1, .int .i64 n2, .int .i64 n3, .int .i64 n4, .int .i64 n5, .int .i64 n6, .int .i64 n7] 40)) w4) := HF3.out.trans hn4.fr (fun _ _ hh => hh)
        have HW4 : Hid (Fr (fun _ => False) w w4) := HW3.out.trans hn4.fr (fun _ _ hh => hh)
        have HNA : Hid (w.heap.size + 1 ≤ ba ∧ w.heap.size + 1 ≤ ga) := by
          have := HF3.out.size
          have a1 := hn4.nb
          have a2 := hn4.ng
          simp at this
          exact ⟨by omega, by omega⟩
        clear hn4 HF3 HW3 k0 k1 k2 k3 k4 k5
        obtain ⟨⟨⟨k0, k1, k2⟩, k3, k4, k5⟩, _⟩ := HBX.out w4 HF4.out
        go_wp2_with fail
        refine (HFR2.out _ HW4.out).mono ?_
        rintro e w5 ⟨bs, gs, cs, rfl, hn5⟩
        have HB5 : Hid (MapAt w5 bs gs cs Ws Hs Ps) := hn5.at_
        have HA5 : Hid (MapAt w5 ba ga ca W H P) := HA4.out.kept hn5.fr (fun x => x) (fun x => x)
        have HF5 : Hid (Fr (fun _ => False) (w.alloc (.cells #[.int .i64 W, .int .i64 H, .slice ao n cap, .int .i64 Ws, .int .i64 Hs, .slice ao2 nn cap2, .int .i64 n0, .int .i64 n1, .int .i64 n2, .int .i64 n3, .int .i64 n4, .int .i64 n5, .int .i64 n6, .int .i64 n7] 40)) w5) := HF4.out.trans hn5.fr (fun _ _ hh => hh)
        have HW5 : Hid (Fr (fun _ => False) w w5) := HW4.out.trans hn5.fr (fun _ _ hh => hh)
        have HNB : Hid (ba < bs ∧ ba < gs ∧ ga < bs ∧ ga < gs) := by
          have a1 := HA4.out.lt
          have a2 := HA4.out.glt
          have a3 := hn5.nb
          have a4 := hn5.ng
          exact ⟨by omega, by omega, by omega, by omega⟩
        clear hn5 HF4 HW4 k0 k1 k2 k3 k4 k5 HA4 HFR HFR2
        obtain ⟨⟨⟨k0, k1, k2⟩, k3, k4, k5⟩, m0, m1, m2, m3, m4, m5, m6, m7⟩ := HBX.out w5 HF5.out
        have tm : ∀ i : Int, -200 < i.tmod 200 ∧ i.tmod 200 < 200 := fun i => tmod_bd i 200 (by omega)
        have t0 := tm n0
        have t1 := tm n1
        have t2 := tm n2
        have t3 := tm n3
        clear tm
        go_wp2_with fail
        go_region
        generalize n0.tmod 200 = sx at *
        generalize n1.tmod 200 = sy at *
        generalize n2.tmod 200 = dx at *
        generalize n3.tmod 200 = dy at *
        obtain ⟨ww, hww⟩ : ∃ ww : Nat, n4 % 300 = (ww : Int) := ⟨(n4 % 300).toNat, by omega⟩
        obtain ⟨hh, hhh⟩ : ∃ hh : Nat, n5 % 300 = (hh : Int) := ⟨(n5 % 300).toNat, by omega⟩
        obtain ⟨op, hop⟩ : ∃ op : Nat, n6 % 5 = (op : Int) := ⟨(n6 % 5).toNat, by omega⟩
        have lw : ww < 300 := by omega
        have lh : hh < 300 := by omega
        have lo : op ≤ 4 := by omega
        have HI4 : Hid (∀ w' : World, Calls Try.prog 17 #[.int .i64 n4, .int .i64 300] w' fun e w'' => e = .returned (.int .i64 ww) ∧ w'' = w') := fun w' => by have := within_any n4 300 w' b4 (by omega) (by omega); rw [show ((300 : Nat) : Int) = 300 from rfl, hww] at this; exact this
        have HI5 : Hid (∀ w' : World, Calls Try.prog 17 #[.int .i64 n5, .int .i64 300] w' fun e w'' => e = .returned (.int .i64 hh) ∧ w'' = w') := fun w' => by have := within_any n5 300 w' b5 (by omega) (by omega); rw [show ((300 : Nat) : Int) = 300 from rfl, hhh] at this; exact this
        have HI6 : Hid (∀ w' : World, Calls Try.prog 17 #[.int .i64 n6, .int .i64 5] w' fun e w'' => e = .returned (.int .i64 op) ∧ w'' = w') := fun w' => by have := within_any n6 5 w' b6 (by omega) (by omega); rw [show ((5 : Nat) : Int) = 5 from rfl, hop] at this; exact this
        have HBL : Hid (∀ w', Fr (fun _ => False) w5 w' → Calls Try.prog 18 #[.pointer (some ⟨ba, 0, none⟩), .pointer (some ⟨bs, 0, none⟩), .int .i64 sx, .int .i64 sy, .int .i64 ww, .int .i64 hh, .int .i64 dx, .int .i64 dy, .int .i64 op] w' fun e w'' => e = .returned (.int .i64 0) ∧ MapAt w'' ba ga ca W H (blitPix (opB op) P Ps Ws Hs sx sy ww hh dx dy) ∧ Fr (fun k => k = ga) w' w'') := fun w' hf => by
          have q := HNB.out
          exact blit_other op ba ga ca W H bs gs cs Ws Hs P Ps sx sy ww hh dx dy w' (HA5.out.kept hf (fun x => x) (fun x => x)) (HB5.out.kept hf (fun x => x) (fun x => x)) lo (by omega) (by omega) (by omega) (by omega) (by omega) (by omega) (by omega) (by omega) (by omega)
        clear hww hhh hop b4 b5 b6
        go_wp2_with fail
        refine (HI4.out _).mono ?_
        rintro e w6 ⟨rfl, rfl⟩
        go_wp2_with fail
        refine (HI5.out _).mono ?_
        rintro e w6 ⟨rfl, rfl⟩
        go_wp2_with fail
        refine (HI6.out _).mono ?_
        rintro e w6 ⟨rfl, rfl⟩
        go_wp2_with fail
        refine (HBL.out _ ((Fr.refl _ _).drew)).mono ?_
        rintro e w7 ⟨rfl, hm7, hf7⟩
        have q1 := HNA.out
        have q2 := HNB.out
        have HQ7 : Hid (MapAt w7 ba ga ca W H (blitPix (opB op) P Ps Ws Hs sx sy ww hh dx dy)) := hm7
        have HF7 : Hid (Fr (fun _ => False) (w.alloc (.cells #[.int .i64 W, .int .i64 H, .slice ao n cap, .int .i64 Ws, .int .i64 Hs, .slice ao2 nn cap2, .int .i64 n0, .int .i64 n1, .int .i64 n2, .int .i64 n3, .int .i64 n4, .int .i64 n5, .int .i64 n6, .int .i64 n7] 40)) w7) := (HF5.out.trans ((Fr.refl (fun _ => False) _).drew) (fun _ _ hh => hh)).trans hf7 (fun i hi hh => by simp at hi; omega)
        have HW7 : Hid (Fr (fun _ => False) w w7) := ((Fr.refl _ _).alloc _).trans HF7.out (fun _ _ hh => hh)
        have HB7 : Hid (MapAt w7 bs gs cs Ws Hs Ps) := (HB5.out.kept ((Fr.refl (fun _ => False) _).drew) (fun x => x) (fun x => x)).kept hf7 (by omega) (by omega)
        clear hm7 hf7 HI4 HI5 HI6 HBL HA5 HB5 HF5 HW5 q1 q2 k0 k1 k2 k3 k4 k5 m0 m1 m2 m3 m4 m5 m6 m7
        obtain ⟨⟨⟨k0, k1, k2⟩, k3, k4, k5⟩, _⟩ := HBX.out w7 HF7.out
        go_wp2_with fail
        refine (HSA.out bs gs cs _ HW7.out HB7.out).mono ?_
        rintro e w8 ⟨rfl, hf8⟩
        have HQ8 : Hid (∀ w', Fr (fun _ => False) w8 w' → MapAt w' ba ga ca W H (blitPix (opB op) P Ps Ws Hs sx sy ww hh dx dy)) := fun w' hf => HQ7.out.kept (hf8.trans hf (fun _ _ hh => hh)) (fun x => x) (fun x => x)
        have HF8 : Hid (∀ w', Fr (fun _ => False) w8 w' → Fr (fun _ => False) (w.alloc (.cells #[.int .i64 W, .int .i64 H, .slice ao n cap, .int .i64 Ws, .int .i64 Hs, .slice ao2 nn cap2, .int .i64 n0, .int .i64 n1, .int .i64 n2, .int .i64 n3, .int .i64 n4, .int .i64 n5, .int .i64 n6, .int .i64 n7] 40)) w') := fun w' hf => HF7.out.trans (hf8.trans hf (fun _ _ hh => hh)) (fun _ _ hh => hh)
        have HW8 : Hid (∀ w', Fr (fun _ => False) w8 w' → Fr (fun _ => False) w w') := fun w' hf => HW7.out.trans (hf8.trans hf (fun _ _ hh => hh)) (fun _ _ hh => hh)
        clear hf8 HQ7 HF7 HW7 HB7 k0 k1 k2 k3 k4 k5
        have HZI : Hid (∀ (i j : Int) (w' : World), Fr (fun _ => False) w w' → 0 ≤ i → i < Ws → 0 ≤ j → j < Hs → Calls Try.prog 20 #[.agg #[.int .i64 Ws, .int .i64 Hs, .slice ao2 nn cap2], .int .i64 i, .int .i64 j] w' fun e w'' => e = .returned (.int .i64 ((Ps i.toNat j.toNat).toNat : Nat)) ∧ Fr (fun _ => False) w' w'') := fun i j w' hf a1 a2 a3 a4 => by
          have := HZ2.out i.toNat j.toNat w' hf (by omega) (by omega)
          rw [Int.toNat_of_nonneg a1, Int.toNat_of_nonneg a3] at this
          exact this
        clear HZ2
        go_wp2_with fail
        go_loopw [14, 15, 16, 17, 18] (fun y _ _ _ _ wr => ∃ k : Nat, k ≤ H ∧ y = .int .i64 k ∧ Fr (fun _ => False) w8 wr) (fun y _ _ _ _ _ => H - (intOf y).toNat)
        case atStart => exact ⟨0, Nat.zero_le _, rfl, Fr.refl _ _⟩
        case round =>
          obtain ⟨k, hk, rfl, hfr⟩ := hrel
          have HFr : Hid (Fr (fun _ => False) w8 wr) := hfr
          obtain ⟨⟨⟨k0, k1, k2⟩, k3, k4, k5⟩, _⟩ := HBX.out wr (HF8.out wr hfr)
          clear hfr
          by_cases hlt : k < H
          · go_wp2_with fail
            go_loopw [15, 16, 17, 18] (fun x _ _ _ wi => ∃ m : Nat, m ≤ W ∧ x = .int .i64 m ∧ Fr (fun _ => False) w8 wi) (fun x _ _ _ _ => W - (intOf x).toNat)
            case atStart => exact ⟨0, Nat.zero_le _, rfl, HFr.out⟩
            case round =>
              obtain ⟨m, hm, rfl, hfi⟩ := hrel
              have HFi : Hid (Fr (fun _ => False) w8 wr) := hfi
              clear k0 k1 k2 k3 k4 k5
              obtain ⟨⟨⟨k0, k1, k2⟩, k3, k4, k5⟩, _⟩ := HBX.out wr (HF8.out wr hfi)
              clear hfi
              by_cases hmt : m < W
              · go_wp2_with fail
                refine (HZ.out m k _ (HW8.out _ HFi.out) hmt hlt).mono ?_
                rintro e w10 ⟨rfl, hf10⟩
                have HF10 : Hid (Fr (fun _ => False) w8 w10) := HFi.out.trans hf10 (fun _ _ hh => hh)
                clear hf10 k0 k1 k2 k3 k4 k5
                obtain ⟨⟨⟨k0, k1, k2⟩, k3, k4, k5⟩, _⟩ := HBX.out w10 (HF8.out w10 HF10.out)
                have HGT : Hid (∀ w', Fr (fun _ => False) w8 w' → Calls Try.prog 11 #[.pointer (some ⟨ba, 0, none⟩), .int .i64 m, .int .i64 k] w' fun e w'' => e = .returned (.int .i64 ((blitPix (opB op) P Ps Ws Hs sx sy ww hh dx dy m k).toNat : Nat)) ∧ ∃ q, w'' = w'.drewN q) := fun w' hf => get_in ba ga ca W H _ m k w' (HQ8.out w' hf) hmt hlt
                by_cases c0 : 0 ≤ (m : Int) - dx
                rotate_left
                · have hQ : blitPix (opB op) P Ps Ws Hs sx sy ww hh dx dy m k = P m k := by unfold blitPix; rw [if_neg]; rintro ⟨⟨_, _, _, _⟩, _, _, _, _⟩; omega
                  go_wp2_with fail
                  refine (HGT.out _ HF10.out).mono ?_
                  rintro e w12 ⟨rfl, q12, rfl⟩
                  rw [hQ]
                  have hne : ((((P m k).toNat : Nat) : Int) != ((P m k).toNat : Nat)) = false := by simp
                  go_wp2_with fail
                  go_roundw
                  case rel => exact ⟨m + 1, by omega, congrArg (Value.int .i64) (by omega), HF10.out.drewN q12⟩
                  case measure => simp [intOf]; omega
                by_cases c1 : (m : Int) - dx < ww
                rotate_left
                · have hQ : blitPix (opB op) P Ps Ws Hs sx sy ww hh dx dy m k = P m k := by unfold blitPix; rw [if_neg]; rintro ⟨⟨_, _, _, _⟩, _, _, _, _⟩; omega
                  go_wp2_with fail
                  refine (HGT.out _ HF10.out).mono ?_
                  rintro e w12 ⟨rfl, q12, rfl⟩
                  rw [hQ]
                  have hne : ((((P m k).toNat : Nat) : Int) != ((P m k).toNat : Nat)) = false := by simp
                  go_wp2_with fail
                  go_roundw
                  case rel => exact ⟨m + 1, by omega, congrArg (Value.int .i64) (by omega), HF10.out.drewN q12⟩
                  case measure => simp [intOf]; omega
                by_cases c2 : 0 ≤ (k : Int) - dy
                rotate_left
                · have hQ : blitPix (opB op) P Ps Ws Hs sx sy ww hh dx dy m k = P m k := by unfold blitPix; rw [if_neg]; rintro ⟨⟨_, _, _, _⟩, _, _, _, _⟩; omega
                  go_wp2_with fail
                  refine (HGT.out _ HF10.out).mono ?_
                  rintro e w12 ⟨rfl, q12, rfl⟩
                  rw [hQ]
                  have hne : ((((P m k).toNat : Nat) : Int) != ((P m k).toNat : Nat)) = false := by simp
                  go_wp2_with fail
                  go_roundw
                  case rel => exact ⟨m + 1, by omega, congrArg (Value.int .i64) (by omega), HF10.out.drewN q12⟩
                  case measure => simp [intOf]; omega
                by_cases c3 : (k : Int) - dy < hh
                rotate_left
                · have hQ : blitPix (opB op) P Ps Ws Hs sx sy ww hh dx dy m k = P m k := by unfold blitPix; rw [if_neg]; rintro ⟨⟨_, _, _, _⟩, _, _, _, _⟩; omega
                  go_wp2_with fail
                  refine (HGT.out _ HF10.out).mono ?_
                  rintro e w12 ⟨rfl, q12, rfl⟩
                  rw [hQ]
                  have hne : ((((P m k).toNat : Nat) : Int) != ((P m k).toNat : Nat)) = false := by simp
                  go_wp2_with fail
                  go_roundw
                  case rel => exact ⟨m + 1, by omega, congrArg (Value.int .i64) (by omega), HF10.out.drewN q12⟩
                  case measure => simp [intOf]; omega
                by_cases c4 : 0 ≤ sx + ((m : Int) - dx)
                rotate_left
                · have hQ : blitPix (opB op) P Ps Ws Hs sx sy ww hh dx dy m k = P m k := by unfold blitPix; rw [if_neg]; rintro ⟨⟨_, _, _, _⟩, _, _, _, _⟩; omega
                  go_wp2_with fail
                  refine (HGT.out _ HF10.out).mono ?_
                  rintro e w12 ⟨rfl, q12, rfl⟩
                  rw [hQ]
                  have hne : ((((P m k).toNat : Nat) : Int) != ((P m k).toNat : Nat)) = false := by simp
                  go_wp2_with fail
                  go_roundw
                  case rel => exact ⟨m + 1, by omega, congrArg (Value.int .i64) (by omega), HF10.out.drewN q12⟩
                  case measure => simp [intOf]; omega
                by_cases c5 : sx + ((m : Int) - dx) < Ws
                rotate_left
                · have hQ : blitPix (opB op) P Ps Ws Hs sx sy ww hh dx dy m k = P m k := by unfold blitPix; rw [if_neg]; rintro ⟨⟨_, _, _, _⟩, _, _, _, _⟩; omega
                  go_wp2_with fail
                  refine (HGT.out _ HF10.out).mono ?_
                  rintro e w12 ⟨rfl, q12, rfl⟩
                  rw [hQ]
                  have hne : ((((P m k).toNat : Nat) : Int) != ((P m k).toNat : Nat)) = false := by simp
                  go_wp2_with fail
                  go_roundw
                  case rel => exact ⟨m + 1, by omega, congrArg (Value.int .i64) (by omega), HF10.out.drewN q12⟩
                  case measure => simp [intOf]; omega
                by_cases c6 : 0 ≤ sy + ((k : Int) - dy)
                rotate_left
                · have hQ : blitPix (opB op) P Ps Ws Hs sx sy ww hh dx dy m k = P m k := by unfold blitPix; rw [if_neg]; rintro ⟨⟨_, _, _, _⟩, _, _, _, _⟩; omega
                  go_wp2_with fail
                  refine (HGT.out _ HF10.out).mono ?_
                  rintro e w12 ⟨rfl, q12, rfl⟩
                  rw [hQ]
                  have hne : ((((P m k).toNat : Nat) : Int) != ((P m k).toNat : Nat)) = false := by simp
                  go_wp2_with fail
                  go_roundw
                  case rel => exact ⟨m + 1, by omega, congrArg (Value.int .i64) (by omega), HF10.out.drewN q12⟩
                  case measure => simp [intOf]; omega
                by_cases c7 : sy + ((k : Int) - dy) < Hs
                rotate_left
                · have hQ : blitPix (opB op) P Ps Ws Hs sx sy ww hh dx dy m k = P m k := by unfold blitPix; rw [if_neg]; rintro ⟨⟨_, _, _, _⟩, _, _, _, _⟩; omega
                  go_wp2_with fail
                  refine (HGT.out _ HF10.out).mono ?_
                  rintro e w12 ⟨rfl, q12, rfl⟩
                  rw [hQ]
                  have hne : ((((P m k).toNat : Nat) : Int) != ((P m k).toNat : Nat)) = false := by simp
                  go_wp2_with fail
                  go_roundw
                  case rel => exact ⟨m + 1, by omega, congrArg (Value.int .i64) (by omega), HF10.out.drewN q12⟩
                  case measure => simp [intOf]; omega
                have hQ : blitPix (opB op) P Ps Ws Hs sx sy ww hh dx dy m k = opB op (P m k) (Ps (sx + ((m : Int) - dx)).toNat (sy + ((k : Int) - dy)).toNat) := by unfold blitPix; rw [if_pos ⟨⟨c0, c1, c4, c5⟩, c2, c3, c6, c7⟩]
                go_wp2_with fail
                refine (HZI.out _ _ _ (HW8.out _ HF10.out) c4 c5 c6 c7).mono ?_
                rintro e w11 ⟨rfl, hf11⟩
                have HF11 : Hid (Fr (fun _ => False) w8 w11) := HF10.out.trans hf11 (fun _ _ hh => hh)
                clear hf11
                go_wp2_with fail
                refine (do_any op _ _ _ lo).mono ?_
                rintro e w13 ⟨rfl, rfl⟩
                go_wp2_with fail
                refine (HGT.out _ HF11.out).mono ?_
                rintro e w12 ⟨rfl, q12, rfl⟩
                rw [hQ]
                have hne : ((((opB op (P m k) (Ps (sx + ((m : Int) - dx)).toNat (sy + ((k : Int) - dy)).toNat)).toNat : Nat) : Int) != ((opB op (P m k) (Ps (sx + ((m : Int) - dx)).toNat (sy + ((k : Int) - dy)).toNat)).toNat : Nat)) = false := by simp
                go_wp2_with fail
                go_roundw
                case rel => exact ⟨m + 1, by omega, congrArg (Value.int .i64) (by omega), HF11.out.drewN q12⟩
                case measure => simp [intOf]; omega
              · have hmn : m = W := by omega
                subst hmn
                go_wp2_with fail
                go_roundw
                case rel => exact ⟨k + 1, by omega, congrArg (Value.int .i64) (by omega), HFi.out⟩
                case measure => simp [intOf]; omega
          · have hkn : k = H := by omega
            subst hkn
            go_wp2_with fail
            refine (wakes_any _).mono ?_
            rintro e w9 ⟨rfl, hf9⟩
            have HF9 : Hid (Fr (fun _ => False) w w9) := (HW8.out _ HFr.out).trans hf9 (fun _ _ hh => hh)
            clear hf9
            go_wp2_with fail
            go_ret
            exact ⟨rfl, HF9.out⟩

end Go.Proofs.Ytcopbjinnegfoaa
