/- 'BitmapSelf' returns true. -/
import Derived.Test.YtcopbjinnegfoaaSmallish
import Derived.Test.YtcopbjinnegfoaaMay
import Derived.Test.YtcopbjinnegfoaaFrom
import Derived.Test.YtcopbjinnegfoaaRefuse
import Derived.Test.YtcopbjinnegfoaaWakes
namespace Go.Proofs.Ytcopbjinnegfoaa
open Go.RowKit

/-- A blit within a map and the same blit from a copy: one answer, the same pixels. -/
theorem two_blits (W H : Nat) (P : Nat → Nat → Bool) (n0 n1 n2 n3 n4 n5 n6 : Int) (b0 : -9223372036854775808 ≤ n0 ∧ n0 ≤ 9223372036854775807) (b1 : -9223372036854775808 ≤ n1 ∧ n1 ≤ 9223372036854775807) (b2 : n2 ≤ 9223372036854775807) (b3 : n3 ≤ 9223372036854775807) (b4 : -9223372036854775808 ≤ n4 ∧ n4 ≤ 9223372036854775807) (b5 : -9223372036854775808 ≤ n5 ∧ n5 ≤ 9223372036854775807) :
    ∃ (r : Int) (R : Nat → Nat → Bool), (∀ (b g cap : Nat) (w : World), MapAt w b g cap W H P → Calls Try.prog 18 #[.pointer (some ⟨b, 0, none⟩), .pointer (some ⟨b, 0, none⟩), .int .i64 n0, .int .i64 n1, .int .i64 n2, .int .i64 n3, .int .i64 n4, .int .i64 n5, .int .i64 n6] w fun e w' => e = .returned (.int .i64 r) ∧ MapAt w' b g cap W H R ∧ Fr (fun k => k = g) w w') ∧
      (∀ (b g cap bs gs caps : Nat) (w : World), MapAt w b g cap W H P → MapAt w bs gs caps W H P → bs ≠ b → bs ≠ g → gs ≠ g → Calls Try.prog 18 #[.pointer (some ⟨b, 0, none⟩), .pointer (some ⟨bs, 0, none⟩), .int .i64 n0, .int .i64 n1, .int .i64 n2, .int .i64 n3, .int .i64 n4, .int .i64 n5, .int .i64 n6] w fun e w' => e = .returned (.int .i64 r) ∧ MapAt w' b g cap W H R ∧ Fr (fun k => k = g) w w') := by
  by_cases hr : n2 < 0 ∨ n3 < 0
  · refine ⟨24, P, fun b g cap w h => (blit_rect b b _ _ _ _ _ _ _ w hr).mono ?_, fun b g cap bs gs caps w h _ _ _ _ => (blit_rect b bs _ _ _ _ _ _ _ w hr).mono ?_⟩
    · rintro e w' ⟨he, rfl⟩; exact ⟨he, h, Fr.refl _ _⟩
    · rintro e w' ⟨he, rfl⟩; exact ⟨he, h, Fr.refl _ _⟩
  · by_cases ho : n6 < 0 ∨ 4 < n6
    · refine ⟨25, P, fun b g cap w h => (blit_op b b _ _ _ _ _ _ _ w (by omega) (by omega) ho).mono ?_, fun b g cap bs gs caps w h _ _ _ _ => (blit_op b bs _ _ _ _ _ _ _ w (by omega) (by omega) ho).mono ?_⟩
      · rintro e w' ⟨he, hf⟩; exact ⟨he, h.kept hf (fun x => x) (fun x => x), hf.mono (fun _ _ hh => hh.elim)⟩
      · rintro e w' ⟨he, hf⟩; exact ⟨he, h.kept hf (fun x => x) (fun x => x), hf.mono (fun _ _ hh => hh.elim)⟩
    · obtain ⟨op, rfl⟩ : ∃ op : Nat, n6 = op := ⟨n6.toNat, by omega⟩
      exact ⟨0, blitPix (opB op) P P W H n0 n1 n2 n3 n4 n5, fun b g cap w h => blit_self op b g cap W H P n0 n1 n2 n3 n4 n5 w h (by omega) b0 b1 (by omega) (by omega) b4 b5,
        fun b g cap bs gs caps w h hs h1 h2 h3 => blit_other op b g cap W H bs gs caps W H P P n0 n1 n2 n3 n4 n5 w h hs (by omega) h1 h2 h3 b0 b1 (by omega) (by omega) b4 b5⟩

set_option maxRecDepth 100000 in
set_option maxHeartbeats 4000000 in
theorem self_any (x y x2 y2 n0 n1 n2 n3 n4 n5 n6 n7 : Int) (v v2 : Value) (l : List Nat) (w : World) (hx : -9223372036854775808 ≤ x ∧ x ≤ 9223372036854775807) (hy : -9223372036854775808 ≤ y ∧ y ≤ 9223372036854775807) (hv : Seen w v l) (hlt : ∀ j : Nat, l[j]?.getD 0 < 18446744073709551616) (hv2 : ∃ ao m c, v2 = .slice ao m c)
    (b0 : -9223372036854775808 ≤ n0 ∧ n0 ≤ 9223372036854775807) (b1 : -9223372036854775808 ≤ n1 ∧ n1 ≤ 9223372036854775807) (b2 : n2 ≤ 9223372036854775807) (b3 : n3 ≤ 9223372036854775807) (b4 : -9223372036854775808 ≤ n4 ∧ n4 ≤ 9223372036854775807) (b5 : -9223372036854775808 ≤ n5 ∧ n5 ≤ 9223372036854775807) :
    Calls Try.prog 5 #[.agg #[.int .i64 x, .int .i64 y, v, .int .i64 x2, .int .i64 y2, v2, .int .i64 n0, .int .i64 n1, .int .i64 n2, .int .i64 n3, .int .i64 n4, .int .i64 n5, .int .i64 n6, .int .i64 n7]] w fun e w' => e = .returned (.bool true) ∧ Fr (fun _ => False) w w' := by
  obtain ⟨ao2, m2, c2, rfl⟩ := hv2
  have HMY : Hid (∀ w', Fr (fun _ => False) w w' → Calls Try.prog 14 #[.agg #[.int .i64 x, .int .i64 y, v]] w' fun e w'' => e = .returned (.bool (validB x y l)) ∧ Fr (fun _ => False) w' w'') := fun w' hf => may_any x y v l w' hx hy (hv.kept hf) hlt
  have HV : Hid (Seen w v l) := hv
  have HLT : Hid (∀ j : Nat, l[j]?.getD 0 < 18446744073709551616) := hlt
  have HTB : Hid (∀ (W H : Nat) (P : Nat → Nat → Bool), ∃ (r : Int) (R : Nat → Nat → Bool), (∀ (b g cap : Nat) (w : World), MapAt w b g cap W H P → Calls Try.prog 18 #[.pointer (some ⟨b, 0, none⟩), .pointer (some ⟨b, 0, none⟩), .int .i64 n0, .int .i64 n1, .int .i64 n2, .int .i64 n3, .int .i64 n4, .int .i64 n5, .int .i64 n6] w fun e w' => e = .returned (.int .i64 r) ∧ MapAt w' b g cap W H R ∧ Fr (fun k => k = g) w w') ∧
      (∀ (b g cap bs gs caps : Nat) (w : World), MapAt w b g cap W H P → MapAt w bs gs caps W H P → bs ≠ b → bs ≠ g → gs ≠ g → Calls Try.prog 18 #[.pointer (some ⟨b, 0, none⟩), .pointer (some ⟨bs, 0, none⟩), .int .i64 n0, .int .i64 n1, .int .i64 n2, .int .i64 n3, .int .i64 n4, .int .i64 n5, .int .i64 n6] w fun e w' => e = .returned (.int .i64 r) ∧ MapAt w' b g cap W H R ∧ Fr (fun k => k = g) w w')) := fun W H P => two_blits W H P n0 n1 n2 n3 n4 n5 n6 b0 b1 b2 b3 b4 b5
  obtain ⟨ao, cap, hve, hll, _⟩ := hv
  clear hlt b0 b1 b2 b3 b4 b5
  subst hve
  generalize l.length = n at *
  have HBX : Hid (∀ w' : World, Fr (fun _ => False) (w.alloc (.cells #[.int .i64 x, .int .i64 y, .slice ao n cap, .int .i64 x2, .int .i64 y2, .slice ao2 m2 c2, .int .i64 n0, .int .i64 n1, .int .i64 n2, .int .i64 n3, .int .i64 n4, .int .i64 n5, .int .i64 n6, .int .i64 n7] 40)) w' → (w'.cell? ⟨w.heap.size, 0, none⟩ = some (.int .i64 x) ∧ w'.cell? ⟨w.heap.size, 1, none⟩ = some (.int .i64 y) ∧ w'.cell? ⟨w.heap.size, 2, none⟩ = some (.slice ao n cap)) ∧ (w'.cell? ⟨w.heap.size, 6, none⟩ = some (.int .i64 n0) ∧ w'.cell? ⟨w.heap.size, 7, none⟩ = some (.int .i64 n1) ∧ w'.cell? ⟨w.heap.size, 8, none⟩ = some (.int .i64 n2) ∧ w'.cell? ⟨w.heap.size, 9, none⟩ = some (.int .i64 n3) ∧ w'.cell? ⟨w.heap.size, 10, none⟩ = some (.int .i64 n4) ∧ w'.cell? ⟨w.heap.size, 11, none⟩ = some (.int .i64 n5) ∧ w'.cell? ⟨w.heap.size, 12, none⟩ = some (.int .i64 n6) ∧ w'.cell? ⟨w.heap.size, 13, none⟩ = some (.int .i64 n7))) := fun w' hf => by
    have hB : w'.heap[w.heap.size]? = some (.cells #[.int .i64 x, .int .i64 y, .slice ao n cap, .int .i64 x2, .int .i64 y2, .slice ao2 m2 c2, .int .i64 n0, .int .i64 n1, .int .i64 n2, .int .i64 n3, .int .i64 n4, .int .i64 n5, .int .i64 n6, .int .i64 n7] 40 (0, 0)) := by
      rw [hf.block _ (by simp) (fun hh => hh)]; exact heap_alloc_new _ _
    refine ⟨⟨?_, ?_, ?_⟩, ?_, ?_, ?_, ?_, ?_, ?_, ?_, ?_⟩ <;> (unfold World.cell?; rw [hB]; rfl)
  go_enter Try.func5, Try.ntmps5
  go_wp2_with fail
  refine (HMY.out _ ((Fr.refl _ _).alloc _)).mono ?_
  rintro e w1 ⟨rfl, hf1⟩
  have HF1 : Hid (Fr (fun _ => False) (w.alloc (.cells #[.int .i64 x, .int .i64 y, .slice ao n cap, .int .i64 x2, .int .i64 y2, .slice ao2 m2 c2, .int .i64 n0, .int .i64 n1, .int .i64 n2, .int .i64 n3, .int .i64 n4, .int .i64 n5, .int .i64 n6, .int .i64 n7] 40)) w1) := hf1
  have HW1 : Hid (Fr (fun _ => False) w w1) := ((Fr.refl _ _).alloc _).trans hf1 (fun _ _ hh => hh)
  obtain ⟨⟨k0, k1, k2⟩, _⟩ := HBX.out w1 hf1
  clear hf1
  rcases hvb : validB x y l with _ | _
  · go_wp2_with fail
    refine (wakes_any _).mono ?_
    rintro e w9 ⟨rfl, hf9⟩
    have HF9 : Hid (Fr (fun _ => False) w w9) := HW1.out.trans hf9 (fun _ _ hh => hh)
    clear hf9
    go_wp2_with fail
    go_ret
    exact ⟨rfl, HF9.out⟩
  · obtain ⟨W, H, rfl, rfl, h1, h2, h3, hl, hr⟩ := valid_parts hvb
    have HFR : Hid (∀ w', Fr (fun _ => False) w w' → Calls Try.prog 16 #[.agg #[.int .i64 W, .int .i64 H, .slice ao n cap]] w' fun e w'' => ∃ b g cap, e = .returned (.tuple #[.pointer (some ⟨b, 0, none⟩), .int .i64 0]) ∧ NewMap w' w'' b g cap W H (pixOf W l)) := fun w' hf => from_yes W H _ l w' h1 h2 h3 (HV.out.kept hf) HLT.out hl hr
    have HRN : Hid (l = render W H (pixOf W l)) := valid_render W H l h1 hl hr HLT.out
    obtain ⟨r, R, ht1, ht2⟩ := HTB.out W H (pixOf W l)
    have HT1 : Hid (∀ (b g cap : Nat) (w : World), MapAt w b g cap W H (pixOf W l) → Calls Try.prog 18 #[.pointer (some ⟨b, 0, none⟩), .pointer (some ⟨b, 0, none⟩), .int .i64 n0, .int .i64 n1, .int .i64 n2, .int .i64 n3, .int .i64 n4, .int .i64 n5, .int .i64 n6] w fun e w' => e = .returned (.int .i64 r) ∧ MapAt w' b g cap W H R ∧ Fr (fun k => k = g) w w') := ht1
    have HT2 : Hid (∀ (b g cap bs gs caps : Nat) (w : World), MapAt w b g cap W H (pixOf W l) → MapAt w bs gs caps W H (pixOf W l) → bs ≠ b → bs ≠ g → gs ≠ g → Calls Try.prog 18 #[.pointer (some ⟨b, 0, none⟩), .pointer (some ⟨bs, 0, none⟩), .int .i64 n0, .int .i64 n1, .int .i64 n2, .int .i64 n3, .int .i64 n4, .int .i64 n5, .int .i64 n6] w fun e w' => e = .returned (.int .i64 r) ∧ MapAt w' b g cap W H R ∧ Fr (fun k => k = g) w w') := ht2
    clear ht1 ht2 HTB h1 h2 h3 hl hr hx hy hvb HMY HLT
    go_wp2_with fail
    refine (small_any w1.heap.size 0 1 1 60000 _ (by omega) ?_).mono ?_
    · intro i hi
      obtain rfl : i = 0 := by omega
      refine ⟨ao, n, cap, ?_⟩
      have := heap_alloc_new w1 (.cells #[.int .i64 W, .int .i64 H, .slice ao n cap] 37)
      unfold World.cell?
      rw [this]; rfl
    rintro e w2 ⟨bb, rfl, q2, hw2⟩
    have HF2 : Hid (Fr (fun _ => False) (w.alloc (.cells #[.int .i64 W, .int .i64 H, .slice ao n cap, .int .i64 x2, .int .i64 y2, .slice ao2 m2 c2, .int .i64 n0, .int .i64 n1, .int .i64 n2, .int .i64 n3, .int .i64 n4, .int .i64 n5, .int .i64 n6, .int .i64 n7] 40)) w2) := by rw [hw2]; exact (HF1.out.alloc _).drewN q2
    have HW2 : Hid (Fr (fun _ => False) w w2) := by rw [hw2]; exact (HW1.out.alloc _).drewN q2
    clear hw2 HF1 HW1 k0 k1 k2
    obtain ⟨⟨k0, k1, k2⟩, _⟩ := HBX.out w2 HF2.out
    cases bb
    · go_wp2_with fail
      refine (wakes_any _).mono ?_
      rintro e w9 ⟨rfl, hf9⟩
      have HF9 : Hid (Fr (fun _ => False) w w9) := HW2.out.trans hf9 (fun _ _ hh => hh)
      clear hf9
      go_wp2_with fail
      go_ret
      exact ⟨rfl, HF9.out⟩
    · go_wp2_with fail
      refine (HFR.out _ HW2.out).mono ?_
      rintro e w3 ⟨ba, ga, ca, rfl, hn3⟩
      have HA3 : Hid (MapAt w3 ba ga ca W H (pixOf W l)) := hn3.at_
      have HF3 : Hid (Fr (fun _ => False) (w.alloc (.cells #[.int .i64 W, .int .i64 H, .slice ao n cap, .int .i64 x2, .int .i64 y2, .slice ao2 m2 c2, .int .i64 n0, .int .i64 n1, .int .i64 n2, .int .i64 n3, .int .i64 n4, .int .i64 n5, .int .i64 n6, .int .i64 n7] 40)) w3) := HF2.out.trans hn3.fr (fun _ _ hh => hh)
      have HW3 : Hid (Fr (fun _ => False) w w3) := HW2.out.trans hn3.fr (fun _ _ hh => hh)
      have HNA : Hid (w2.heap.size ≤ ba ∧ w2.heap.size ≤ ga) := ⟨hn3.nb, hn3.ng⟩
      have hs2 : w.heap.size + 1 ≤ w2.heap.size := by have := HF2.out.size; simpa using this
      clear hn3 HF2 HW2 k0 k1 k2
      obtain ⟨⟨k0, k1, k2⟩, _⟩ := HBX.out w3 HF3.out
      go_wp2_with fail
      refine (HFR.out _ HW3.out).mono ?_
      rintro e w4 ⟨bb, gb, cb, rfl, hn4⟩
      have HB4 : Hid (MapAt w4 bb gb cb W H (pixOf W l)) := hn4.at_
      have HA4 : Hid (MapAt w4 ba ga ca W H (pixOf W l)) := HA3.out.kept hn4.fr (fun x => x) (fun x => x)
      have HF4 : Hid (Fr (fun _ => False) (w.alloc (.cells #[.int .i64 W, .int .i64 H, .slice ao n cap, .int .i64 x2, .int .i64 y2, .slice ao2 m2 c2, .int .i64 n0, .int .i64 n1, .int .i64 n2, .int .i64 n3, .int .i64 n4, .int .i64 n5, .int .i64 n6, .int .i64 n7] 40)) w4) := HF3.out.trans hn4.fr (fun _ _ hh => hh)
      have HW4 : Hid (Fr (fun _ => False) w w4) := HW3.out.trans hn4.fr (fun _ _ hh => hh)
      have HNB : Hid (ba < bb ∧ ba < gb ∧ ga < bb ∧ ga < gb) := by
        have a1 := HA3.out.lt
        have a2 := HA3.out.glt
        have a3 := hn4.nb
        have a4 := hn4.ng
        exact ⟨by omega, by omega, by omega, by omega⟩
      clear hn4 HF3 HW3 k0 k1 k2 HA3
      obtain ⟨⟨k0, k1, k2⟩, _⟩ := HBX.out w4 HF4.out
      go_wp2_with fail
      refine (HFR.out _ HW4.out).mono ?_
      rintro e w5 ⟨bc, gc, cc, rfl, hn5⟩
      have HC5 : Hid (MapAt w5 bc gc cc W H (pixOf W l)) := hn5.at_
      have HB5 : Hid (MapAt w5 bb gb cb W H (pixOf W l)) := HB4.out.kept hn5.fr (fun x => x) (fun x => x)
      have HA5 : Hid (MapAt w5 ba ga ca W H (pixOf W l)) := HA4.out.kept hn5.fr (fun x => x) (fun x => x)
      have HF5 : Hid (Fr (fun _ => False) (w.alloc (.cells #[.int .i64 W, .int .i64 H, .slice ao n cap, .int .i64 x2, .int .i64 y2, .slice ao2 m2 c2, .int .i64 n0, .int .i64 n1, .int .i64 n2, .int .i64 n3, .int .i64 n4, .int .i64 n5, .int .i64 n6, .int .i64 n7] 40)) w5) := HF4.out.trans hn5.fr (fun _ _ hh => hh)
      have HW5 : Hid (Fr (fun _ => False) w w5) := HW4.out.trans hn5.fr (fun _ _ hh => hh)
      have HNC : Hid (ga < bc ∧ ga < gc ∧ bb < bc ∧ gb < bc ∧ bb < gc ∧ gb < gc) := by
        have a1 := HB4.out.lt
        have a2 := HB4.out.glt
        have a3 := hn5.nb
        have a4 := hn5.ng
        have a5 := HA4.out.glt
        exact ⟨by omega, by omega, by omega, by omega, by omega, by omega⟩
      clear hn5 HF4 HW4 k0 k1 k2 HA4 HB4
      obtain ⟨⟨k0, k1, k2⟩, m0, m1, m2', m3, m4, m5, m6, m7⟩ := HBX.out w5 HF5.out
      have HKN : Hid (∀ w', Fr (fun k => k = ga ∨ k = gb) (w5.alloc (.cells #[.int .i64 n0, .int .i64 n1, .int .i64 n2, .int .i64 n3, .int .i64 n4, .int .i64 n5, .int .i64 n6, .int .i64 n7] 38)) w' → w'.cell? ⟨w5.heap.size, 0, none⟩ = some (.int .i64 n0) ∧ w'.cell? ⟨w5.heap.size, 1, none⟩ = some (.int .i64 n1) ∧ w'.cell? ⟨w5.heap.size, 2, none⟩ = some (.int .i64 n2) ∧ w'.cell? ⟨w5.heap.size, 3, none⟩ = some (.int .i64 n3) ∧ w'.cell? ⟨w5.heap.size, 4, none⟩ = some (.int .i64 n4) ∧ w'.cell? ⟨w5.heap.size, 5, none⟩ = some (.int .i64 n5) ∧ w'.cell? ⟨w5.heap.size, 6, none⟩ = some (.int .i64 n6)) := fun w' hf => by
        have a5 := HA5.out.glt
        have a6 := HB5.out.glt
        have hB : w'.heap[w5.heap.size]? = some (.cells #[.int .i64 n0, .int .i64 n1, .int .i64 n2, .int .i64 n3, .int .i64 n4, .int .i64 n5, .int .i64 n6, .int .i64 n7] 38 (0, 0)) := by
          rw [hf.block _ (by simp) (by omega)]; exact heap_alloc_new _ _
        refine ⟨?_, ?_, ?_, ?_, ?_, ?_, ?_⟩ <;> (unfold World.cell?; rw [hB]; rfl)
      have HBL1 : Hid (∀ w', Fr (fun _ => False) (w5.alloc (.cells #[.int .i64 n0, .int .i64 n1, .int .i64 n2, .int .i64 n3, .int .i64 n4, .int .i64 n5, .int .i64 n6, .int .i64 n7] 38)) w' → Calls Try.prog 18 #[.pointer (some ⟨ba, 0, none⟩), .pointer (some ⟨ba, 0, none⟩), .int .i64 n0, .int .i64 n1, .int .i64 n2, .int .i64 n3, .int .i64 n4, .int .i64 n5, .int .i64 n6] w' fun e w'' => e = .returned (.int .i64 r) ∧ MapAt w'' ba ga ca W H R ∧ Fr (fun k => k = ga) w' w'') := fun w' hf => HT1.out ba ga ca w' (HA5.out.kept (((Fr.refl (fun _ => False) _).alloc _).trans hf (fun _ _ hh => hh)) (fun hh => hh) (fun hh => hh))
      have HBL2 : Hid (∀ w', Fr (fun k => k = ga) (w5.alloc (.cells #[.int .i64 n0, .int .i64 n1, .int .i64 n2, .int .i64 n3, .int .i64 n4, .int .i64 n5, .int .i64 n6, .int .i64 n7] 38)) w' → Calls Try.prog 18 #[.pointer (some ⟨bb, 0, none⟩), .pointer (some ⟨bc, 0, none⟩), .int .i64 n0, .int .i64 n1, .int .i64 n2, .int .i64 n3, .int .i64 n4, .int .i64 n5, .int .i64 n6] w' fun e w'' => e = .returned (.int .i64 r) ∧ MapAt w'' bb gb cb W H R ∧ Fr (fun k => k = gb) w' w'') := fun w' hf => by
        have q1 := HNB.out
        have q2 := HNC.out
        exact HT2.out bb gb cb bc gc cc w' (HB5.out.kept (((Fr.refl (fun k => k = ga) _).alloc _).trans hf (fun _ _ hh => hh)) (by omega) (by omega)) (HC5.out.kept (((Fr.refl (fun k => k = ga) _).alloc _).trans hf (fun _ _ hh => hh)) (by omega) (by omega)) (by omega) (by omega) (by omega)
      clear HT1 HT2 HFR
      go_wp2_with fail
      clear k0 k1 k2 m0 m1 m2' m3 m4 m5 m6 m7
      go_region_held3 (fun w' => w'.cell? ⟨w5.heap.size, 0, none⟩ = some (.int .i64 n0) ∧ w'.cell? ⟨w5.heap.size, 1, none⟩ = some (.int .i64 n1) ∧ w'.cell? ⟨w5.heap.size, 2, none⟩ = some (.int .i64 n2) ∧ w'.cell? ⟨w5.heap.size, 3, none⟩ = some (.int .i64 n3) ∧ w'.cell? ⟨w5.heap.size, 4, none⟩ = some (.int .i64 n4) ∧ w'.cell? ⟨w5.heap.size, 5, none⟩ = some (.int .i64 n5) ∧ w'.cell? ⟨w5.heap.size, 6, none⟩ = some (.int .i64 n6)) (first | exact HKN.out _ ((Fr.refl _ _).drew) | exact HKN.out _ (((Fr.refl _ _).drew).trans hfa (fun _ _ hh => Or.inl hh)) | exact HKN.out _ ((((Fr.refl _ _).drew).trans hfa (fun _ _ hh => Or.inl hh)).trans hfb (fun _ _ hh => Or.inr hh))) (first | (go_at_call 18; (have _ := hfa); refine (HBL2.out _ ?_).mono ?_; (exact ((Fr.refl _ _).drew).trans hfa (fun _ _ hh => hh)); rintro e w7 ⟨rfl, hmb, hfb⟩) | (go_at_call 18; refine (HBL1.out _ ((Fr.refl _ _).drew)).mono ?_; rintro e w6 ⟨rfl, hma, hfa⟩))
      have q1 := HNB.out
      have q2 := HNC.out
      have q3 := HNA.out
      have HA7 : Hid (MapAt w7 ba ga ca W H R) := hma.kept hfb (by omega) (by omega)
      have HB7 : Hid (MapAt w7 bb gb cb W H R) := hmb
      have hf7 : Fr (fun k => k = ga ∨ k = gb) w5 w7 := ((((Fr.refl (fun k => k = ga ∨ k = gb) _).alloc _).drew).trans hfa (fun _ _ hh => Or.inl hh)).trans hfb (fun _ _ hh => Or.inr hh)
      have HC7 : Hid (MapAt w7 bc gc cc W H (pixOf W l)) := HC5.out.kept hf7 (by omega) (by omega)
      have HF7 : Hid (Fr (fun _ => False) (w.alloc (.cells #[.int .i64 W, .int .i64 H, .slice ao n cap, .int .i64 x2, .int .i64 y2, .slice ao2 m2 c2, .int .i64 n0, .int .i64 n1, .int .i64 n2, .int .i64 n3, .int .i64 n4, .int .i64 n5, .int .i64 n6, .int .i64 n7] 40)) w7) := HF5.out.trans hf7 (fun i hi hh => by simp at hi; omega)
      have HW7 : Hid (Fr (fun _ => False) w w7) := HW5.out.trans hf7 (fun i hi hh => by omega)
      have hrr : (r != r) = false := by simp
      clear hma hmb hfa hfb hf7 HA5 HB5 HC5 HF5 HW5 HBL1 HBL2 HKN q1 q2 q3
      go_wp2_with fail
      refine (plain_any ba ga ca W H R _ HA7.out).mono ?_
      rintro e w8 ⟨gp, cp, rfl, ho8, hf8, _⟩
      have HO8 : Hid (w8.ownsRow 0 60 1 (.slice (some ⟨gp, 0, none⟩) (H * stride W) cp) (H * stride W) (wordCells (render W H R))) := ho8
      have HB8 : Hid (MapAt w8 bb gb cb W H R) := HB7.out.kept hf8 (fun x => x) (fun x => x)
      have HC8 : Hid (MapAt w8 bc gc cc W H (pixOf W l)) := HC7.out.kept hf8 (fun x => x) (fun x => x)
      have HF8 : Hid (Fr (fun _ => False) (w.alloc (.cells #[.int .i64 W, .int .i64 H, .slice ao n cap, .int .i64 x2, .int .i64 y2, .slice ao2 m2 c2, .int .i64 n0, .int .i64 n1, .int .i64 n2, .int .i64 n3, .int .i64 n4, .int .i64 n5, .int .i64 n6, .int .i64 n7] 40)) w8) := HF7.out.trans hf8 (fun _ _ hh => hh)
      have HW8 : Hid (Fr (fun _ => False) w w8) := HW7.out.trans hf8 (fun _ _ hh => hh)
      clear ho8 hf8 HB7 HC7 HF7 HW7 HA7
      go_wp2_with fail
      refine (plain_any bb gb cb W H R _ HB8.out).mono ?_
      rintro e w10 ⟨gq, cq, rfl, ho9, hf9, _⟩
      have hwl := HB8.out.words_le
      have HS1 : Hid (Seen w10 (.slice (some ⟨gp, 0, none⟩) (H * stride W) cp) (render W H R)) := Seen.of_row (base := 0) (by rw [length_render]; exact row_kept HO8.out hf9 (fun _ _ hh => hh)) (by rw [length_render]; omega)
      have HS2 : Hid (Seen w10 (.slice (some ⟨gq, 0, none⟩) (H * stride W) cq) (render W H R)) := Seen.of_row (base := 0) (by rw [length_render]; exact ho9) (by rw [length_render]; omega)
      have HC9 : Hid (MapAt w10 bc gc cc W H (pixOf W l)) := HC8.out.kept hf9 (fun x => x) (fun x => x)
      have HF9' : Hid (Fr (fun _ => False) (w.alloc (.cells #[.int .i64 W, .int .i64 H, .slice ao n cap, .int .i64 x2, .int .i64 y2, .slice ao2 m2 c2, .int .i64 n0, .int .i64 n1, .int .i64 n2, .int .i64 n3, .int .i64 n4, .int .i64 n5, .int .i64 n6, .int .i64 n7] 40)) w10) := HF8.out.trans hf9 (fun _ _ hh => hh)
      have HW9 : Hid (Fr (fun _ => False) w w10) := HW8.out.trans hf9 (fun _ _ hh => hh)
      clear ho9 hf9 HO8 HB8 HC8 HF8 HW8
      go_wp2_with fail
      refine (eqBitmap_same W H _ _ (render W H R) _ HS1.out HS2.out).mono ?_
      rintro e w11 ⟨rfl, hf11⟩
      have HC11 : Hid (MapAt w11 bc gc cc W H (pixOf W l)) := HC9.out.kept hf11 (fun x => x) (fun x => x)
      have HF11 : Hid (Fr (fun _ => False) (w.alloc (.cells #[.int .i64 W, .int .i64 H, .slice ao n cap, .int .i64 x2, .int .i64 y2, .slice ao2 m2 c2, .int .i64 n0, .int .i64 n1, .int .i64 n2, .int .i64 n3, .int .i64 n4, .int .i64 n5, .int .i64 n6, .int .i64 n7] 40)) w11) := HF9'.out.trans hf11 (fun _ _ hh => hh)
      have HW11 : Hid (Fr (fun _ => False) w w11) := HW9.out.trans hf11 (fun _ _ hh => hh)
      obtain ⟨⟨k0, k1, k2⟩, _⟩ := HBX.out w11 HF11.out
      clear hf11 HS1 HS2 HC9 HF9' HW9
      go_wp2_with fail
      refine (same_any bc gc cc W H (pixOf W l) W H _ l _ HC11.out (HV.out.kept HW11.out)).mono ?_
      rintro e w12 ⟨rfl, hf12⟩
      have hsb : sameB W H (pixOf W l) W H l = true := by
        unfold sameB eqB
        rw [← HRN.out]
        simp
      rw [hsb]
      have HW12 : Hid (Fr (fun _ => False) w w12) := HW11.out.trans hf12 (fun _ _ hh => hh)
      clear hf12 hsb
      go_wp2_with fail
      refine (wakes_any _).mono ?_
      rintro e w13 ⟨rfl, hf13⟩
      have HW13 : Hid (Fr (fun _ => False) w w13) := HW12.out.trans hf13 (fun _ _ hh => hh)
      clear hf13
      go_wp2_with fail
      go_ret
      exact ⟨rfl, HW13.out⟩

end Go.Proofs.Ytcopbjinnegfoaa
