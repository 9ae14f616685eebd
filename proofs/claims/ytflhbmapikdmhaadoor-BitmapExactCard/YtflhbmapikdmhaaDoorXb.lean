/- The reference's 'Blit'. -/
import Derived.Test.YtflhbmapikdmhaaDoorBlits
import Derived.Test.YtflhbmapikdmhaaDoorXr
import Derived.Test.YtflhbmapikdmhaaDoorWy
import Derived.Deep.RegionHeld3
namespace Go.Proofs.YtflhbmapikdmhaaDoor
open Go.RowKit

set_option maxRecDepth 100000 in
set_option maxHeartbeats 1000000 in
theorem blit_rect (b bs : Nat) (sx sy ww hh dx dy op : Int) (w : World) (h : ww < 0 ∨ hh < 0) :
    Calls Tryd.prog 10 #[.pointer (some ⟨b, 0, none⟩), .pointer (some ⟨bs, 0, none⟩), .int .i64 sx, .int .i64 sy, .int .i64 ww, .int .i64 hh, .int .i64 dx, .int .i64 dy, .int .i64 op] w fun e w' => e = .returned (.int .i64 24) ∧ w' = w := by
  by_cases h1 : ww < 0
  · go_enter Tryd.func10, Tryd.ntmps10
    go_wp2_with fail
    go_ret
    exact ⟨rfl, rfl⟩
  · have h2 : hh < 0 := by omega
    clear h
    go_enter Tryd.func10, Tryd.ntmps10
    go_wp2_with fail
    go_ret
    exact ⟨rfl, rfl⟩

set_option maxRecDepth 100000 in
set_option maxHeartbeats 2000000 in
theorem blit_op (b bs : Nat) (sx sy ww hh dx dy op : Int) (w : World) (b3 : 0 ≤ ww) (b4 : 0 ≤ hh) (ho : op < 0 ∨ 4 < op) :
    Calls Tryd.prog 10 #[.pointer (some ⟨b, 0, none⟩), .pointer (some ⟨bs, 0, none⟩), .int .i64 sx, .int .i64 sy, .int .i64 ww, .int .i64 hh, .int .i64 dx, .int .i64 dy, .int .i64 op] w fun e w' => e = .returned (.int .i64 25) ∧ Fr (fun _ => False) w w' := by
  have hsf : ∀ (w : World) (a : Addr) (m : Mode) (fn : Fn) (x y : Array Value), (store a (.func fn x y) m).run Tryd.prog w = stored Tryd.prog w a (.func fn x y) m := fun w a m fn x y => run_store _ w a _ m rfl
  have HOP : Hid (op < 0 ∨ 4 < op) := ho
  clear ho
  go_enter Tryd.func10, Tryd.ntmps10
  go_wp2_with fail
  refine (operations_any _).mono ?_
  rintro e w1 ⟨rfl, hw1⟩
  have HO : Hid (w1.heap[w.heap.size]? = some (.cells opsRow 74 (0, 0))) := by show _ = _; rw [hw1]; exact heap_alloc_new _ _
  have HF1 : Hid (Fr (fun _ => False) w w1) := by rw [hw1]; exact (Fr.refl _ _).alloc _
  have hsz : w.heap.size < w1.heap.size := by rw [hw1]; simp
  clear hw1
  go_wp2_with fail
  go_loopw [31] (fun i wr => ∃ k : Nat, k ≤ 5 ∧ i = .int .i64 k ∧ Fr (fun _ => False) w1 wr) (fun i _ => 5 - (intOf i).toNat)
  case atStart => exact ⟨0, Nat.zero_le _, rfl, Fr.refl _ _⟩
  case round =>
    obtain ⟨k, hk, rfl, hfr⟩ := hrel
    have HF : Hid (Fr (fun _ => False) w1 wr) := hfr
    by_cases hlt : k < 5
    · obtain ⟨c0, c1⟩ := opsRow_cells wr w.heap.size (by rw [hfr.block _ hsz (fun x => x)]; exact HO.out) k (by omega)
      clear hfr
      have hkq : ((k : Int) == op) = false := by
        have := HOP.out
        rw [beq_eq_false_iff_ne]
        omega
      go_wp2_with fail
      go_roundw
      case rel => exact ⟨k + 1, by omega, congrArg (Value.int .i64) (by omega), HF.out.alloc _⟩
      case measure => simp [intOf]; omega
    · clear hfr
      go_wp2_with fail
      go_ret
      exact ⟨rfl, HF1.out.trans HF.out (fun _ _ hh => hh)⟩

end Go.Proofs.YtflhbmapikdmhaaDoor

namespace Go.Proofs.YtflhbmapikdmhaaDoor
set_option maxRecDepth 100000
open Go.RowKit

theorem blit_setG {sx sy ww hh dx dy A1 C1 A2 C2 A3 C3 A4 C4 J : Int} {W H V U : Nat} (o : Bool → Bool → Bool) (P Ps : Nat → Nat → Bool) (s1 : SpanOK sx ww V A1 C1) (s2 : SpanOK dx ww W A2 C2) (s3 : SpanOK sy hh U A3 C3) (s4 : SpanOK dy hh H A4 C4) (h3 : min C3 C4 ≤ J) :
    ∀ a e, a < W → e < H → setG (blitPix o P Ps V U sx sy ww hh dx dy) dx dy (max A1 A2) (min C1 C2) (max A3 A4) J (max A1 A2) P a e = blitPix o P Ps V U sx sy ww hh dx dy a e := by
  intro a e ha he
  have i1 := s1.iff ((a : Int) - dx)
  have i2 := s2.iff ((a : Int) - dx)
  have i3 := s3.iff ((e : Int) - dy)
  have i4 := s4.iff ((e : Int) - dy)
  unfold setG
  by_cases q : max A3 A4 ≤ (e : Int) - dy ∧ max A1 A2 ≤ (a : Int) - dx ∧ (a : Int) - dx < min C1 C2 ∧ ((e : Int) - dy < J ∨ ((e : Int) - dy = J ∧ (a : Int) - dx < max A1 A2))
  · rw [if_pos q]
  · rw [if_neg q]
    unfold blitPix
    rw [if_neg]
    rintro ⟨⟨q1, q2, q3, q4⟩, p1, p2, p3, p4⟩
    have k1 := (i1 q1 q2).1 ⟨q3, q4⟩
    have k2 := (i2 q1 q2).1 (by omega)
    have k3 := (i3 p1 p2).1 ⟨p3, p4⟩
    have k4 := (i4 p1 p2).1 (by omega)
    omega
theorem blitPix_in {sx sy ww hh dx dy I J : Int} {V U A0 E0 p q : Nat} (o : Bool → Bool → Bool) (P Ps : Nat → Nat → Bool) (hA : dx + I = (A0 : Int)) (hE : dy + J = (E0 : Int)) (hp : sx + I = (p : Int)) (hq : sy + J = (q : Int)) (h1 : 0 ≤ I ∧ I < ww) (h2 : 0 ≤ J ∧ J < hh) (h3 : p < V) (h4 : q < U) :
    blitPix o P Ps V U sx sy ww hh dx dy A0 E0 = o (P A0 E0) (Ps p q) := by
  unfold blitPix
  rw [if_pos (by omega), show (sx + ((A0 : Int) - dx)).toNat = p by omega, show (sy + ((E0 : Int) - dy)).toNat = q by omega]

set_option linter.unusedSimpArgs false in
theorem rblit_rect (W H V U : Nat) (v u : Value) (sx sy ww hh dx dy op : Int) (w : World) (hv : ∃ ao n cap, v = .slice ao n cap) (hu : ∃ ao n cap, u = .slice ao n cap) (h : ww < 0 ∨ hh < 0) :
    Calls Tryd.prog 11 #[.agg #[.int .i64 (W : Int), .int .i64 (H : Int), v], .agg #[.int .i64 (V : Int), .int .i64 (U : Int), u], .int .i64 sx, .int .i64 sy, .int .i64 ww, .int .i64 hh, .int .i64 dx, .int .i64 dy, .int .i64 op] w fun e w' => e = .returned (.int .i64 24) ∧ Fr (fun _ => False) w w' := by
  obtain ⟨ao, n, cap, rfl⟩ := hv
  obtain ⟨ao2, n2, cap2, rfl⟩ := hu
  have HF1 : Hid (Fr (fun _ => False) w ((w.alloc (.cells #[.int .i64 (W : Int), .int .i64 (H : Int), .slice ao n cap] 39)).alloc (.cells #[.int .i64 (V : Int), .int .i64 (U : Int), .slice ao2 n2 cap2] 39))) := ((Fr.refl _ w).alloc _).alloc _
  by_cases h1 : ww < 0
  · have d1 : decide (ww < 0) = true := decide_eq_true h1
    go_enter Tryd.func11, Tryd.ntmps11
    go_wp2_with fail
    go_ret
    exact ⟨rfl, HF1.out⟩
  · have d1 : decide (ww < 0) = false := decide_eq_false h1
    have d2 : decide (hh < 0) = true := decide_eq_true (by omega)
    go_enter Tryd.func11, Tryd.ntmps11
    go_wp2_with fail
    go_ret
    exact ⟨rfl, HF1.out⟩

set_option linter.unusedSimpArgs false in
theorem rblit_op (W H V U : Nat) (v u : Value) (sx sy ww hh dx dy op : Int) (w : World) (hv : ∃ ao n cap, v = .slice ao n cap) (hu : ∃ ao n cap, u = .slice ao n cap) (h1 : 0 ≤ ww) (h2 : 0 ≤ hh) (h : op < 0 ∨ 4 < op) :
    Calls Tryd.prog 11 #[.agg #[.int .i64 (W : Int), .int .i64 (H : Int), v], .agg #[.int .i64 (V : Int), .int .i64 (U : Int), u], .int .i64 sx, .int .i64 sy, .int .i64 ww, .int .i64 hh, .int .i64 dx, .int .i64 dy, .int .i64 op] w fun e w' => e = .returned (.int .i64 25) ∧ Fr (fun _ => False) w w' := by
  obtain ⟨ao, n, cap, rfl⟩ := hv
  obtain ⟨ao2, n2, cap2, rfl⟩ := hu
  have HF1 : Hid (Fr (fun _ => False) w ((w.alloc (.cells #[.int .i64 (W : Int), .int .i64 (H : Int), .slice ao n cap] 39)).alloc (.cells #[.int .i64 (V : Int), .int .i64 (U : Int), .slice ao2 n2 cap2] 39))) := ((Fr.refl _ w).alloc _).alloc _
  have d1 : decide (ww < 0) = false := decide_eq_false (by omega)
  have d2 : decide (hh < 0) = false := decide_eq_false (by omega)
  clear h1 h2
  by_cases h1 : op < 0
  · have d3 : decide (op < 0) = true := decide_eq_true h1
    go_enter Tryd.func11, Tryd.ntmps11
    go_wp2_with fail
    go_ret
    exact ⟨rfl, HF1.out⟩
  · have d3 : decide (op < 0) = false := decide_eq_false h1
    have d4 : decide (4 < op) = true := decide_eq_true (by omega)
    go_enter Tryd.func11, Tryd.ntmps11
    go_wp2_with fail
    go_ret
    exact ⟨rfl, HF1.out⟩

set_option linter.unusedSimpArgs false in
set_option maxHeartbeats 40000000 in
theorem rblit_ok (op : Nat) (hop : op ≤ 4) (W H g cap : Nat) (P : Nat → Nat → Bool) (V U : Nat) (v : Value) (Ps : Nat → Nat → Bool) (sx sy ww hh dx dy : Int) (w : World) (hr : RowAt w g cap W H P) (hs : Bm w v V U Ps) (h1 : 1 ≤ W) (h2 : 1 ≤ H) (h3 : W * H ≤ 1048576)
    (b1 : -9223372036854775808 ≤ sx ∧ sx ≤ 9223372036854775807) (b2 : -9223372036854775808 ≤ sy ∧ sy ≤ 9223372036854775807) (b3 : 0 ≤ ww ∧ ww ≤ 9223372036854775807) (b4 : 0 ≤ hh ∧ hh ≤ 9223372036854775807) (b5 : -9223372036854775808 ≤ dx ∧ dx ≤ 9223372036854775807) (b6 : -9223372036854775808 ≤ dy ∧ dy ≤ 9223372036854775807) :
    Calls Tryd.prog 11 #[.agg #[.int .i64 (W : Int), .int .i64 (H : Int), .slice (some ⟨g, 0, none⟩) (H * stride W) cap], .agg #[.int .i64 (V : Int), .int .i64 (U : Int), v], .int .i64 sx, .int .i64 sy, .int .i64 ww, .int .i64 hh, .int .i64 dx, .int .i64 dy, .int .i64 op] w fun e w' => e = .returned (.int .i64 0) ∧ RowAt w' g cap W H (blitPix (opB op) P Ps V U sx sy ww hh dx dy) ∧ Fr (fun k => k = g) w w' := by
  obtain ⟨f1, f2, f3⟩ := size_facts h1 h2 h3
  obtain ⟨l1, l2, l3⟩ := size_facts hs.h1 hs.h2 hs.h3
  have HOP : Hid (op ≤ 4) := hop
  have d1 : decide (ww < 0) = false := decide_eq_false (by omega)
  have d2 : decide (hh < 0) = false := decide_eq_false (by omega)
  have d3 : decide ((op : Int) < 0) = false := decide_eq_false (by omega)
  have d4 : decide (4 < (op : Int)) = false := decide_eq_false (by omega)
  have d5 : decide (4 < op) = false := decide_eq_false (by omega)
  have HR : Hid (RowAt w g cap W H P) := hr
  have HS : Hid (∀ w', Fr (fun _ => False) w w' → Bm w' v V U Ps) := fun w' f => hs.kept f
  have HB : Hid (1 ≤ W ∧ 1 ≤ H ∧ W * H ≤ 1048576) := ⟨h1, h2, h3⟩
  have HBS : Hid (1 ≤ V ∧ 1 ≤ U ∧ V * U ≤ 1048576) := ⟨hs.h1, hs.h2, hs.h3⟩
  have HGL : Hid (g < w.heap.size) := hr.lt
  have HBB : Hid (ww ≤ 9223372036854775807 ∧ hh ≤ 9223372036854775807) := ⟨b3.2, b4.2⟩
  have HS1 : Hid (∀ w' : World, Calls Tryd.prog 37 #[.int .i64 sx, .int .i64 ww, .int .i64 (V : Int)] w' fun e w'' => (∃ a c : Int, e = .returned (.tuple #[.int .i64 a, .int .i64 c]) ∧ SpanOK sx ww V a c) ∧ w'' = w') := fun w' => span_any sx ww V w' b1 b3 l1
  have HS2 : Hid (∀ w' : World, Calls Tryd.prog 37 #[.int .i64 dx, .int .i64 ww, .int .i64 (W : Int)] w' fun e w'' => (∃ a c : Int, e = .returned (.tuple #[.int .i64 a, .int .i64 c]) ∧ SpanOK dx ww W a c) ∧ w'' = w') := fun w' => span_any dx ww W w' b5 b3 f1
  have HS3 : Hid (∀ w' : World, Calls Tryd.prog 37 #[.int .i64 sy, .int .i64 hh, .int .i64 (U : Int)] w' fun e w'' => (∃ a c : Int, e = .returned (.tuple #[.int .i64 a, .int .i64 c]) ∧ SpanOK sy hh U a c) ∧ w'' = w') := fun w' => span_any sy hh U w' b2 b4 l2
  have HS4 : Hid (∀ w' : World, Calls Tryd.prog 37 #[.int .i64 dy, .int .i64 hh, .int .i64 (H : Int)] w' fun e w'' => (∃ a c : Int, e = .returned (.tuple #[.int .i64 a, .int .i64 c]) ∧ SpanOK dy hh H a c) ∧ w'' = w') := fun w' => span_any dy hh H w' b6 b4 f2
  obtain ⟨ao, capS, rfl, _, _⟩ := hs.seen
  generalize (render V U Ps).length = n at *
  obtain ⟨s0, HS0⟩ : ∃ s0, Hid (w.heap.size = s0) := ⟨_, rfl⟩
  obtain ⟨N, HN⟩ : ∃ N, Hid (N = H * stride W) := ⟨_, rfl⟩
  rw [← HN.out]
  have HA : Hid (Fr (fun _ => False) w ((w.alloc (.cells #[.int .i64 (W : Int), .int .i64 (H : Int), .slice (some ⟨g, 0, none⟩) N cap] 39)).alloc (.cells #[.int .i64 (V : Int), .int .i64 (U : Int), .slice ao n capS] 39))) := ((Fr.refl _ _).alloc _).alloc _
  have HC : Hid (∀ w', Fr (fun k => k = g) ((w.alloc (.cells #[.int .i64 (W : Int), .int .i64 (H : Int), .slice (some ⟨g, 0, none⟩) N cap] 39)).alloc (.cells #[.int .i64 (V : Int), .int .i64 (U : Int), .slice ao n capS] 39)) w' → (w'.cell? ⟨w.heap.size, 0, none⟩ = some (.int .i64 W) ∧ w'.cell? ⟨w.heap.size, 1, none⟩ = some (.int .i64 H) ∧ w'.cell? ⟨w.heap.size, 2, none⟩ = some (.slice (some ⟨g, 0, none⟩) N cap)) ∧ w'.cell? ⟨w.heap.size + 1, 0, none⟩ = some (.int .i64 V) ∧ w'.cell? ⟨w.heap.size + 1, 1, none⟩ = some (.int .i64 U) ∧ w'.cell? ⟨w.heap.size + 1, 2, none⟩ = some (.slice ao n capS)) := fun w' hf => by
    have hgl := HGL.out
    have e1 : ((w.alloc (.cells #[.int .i64 (W : Int), .int .i64 (H : Int), .slice (some ⟨g, 0, none⟩) N cap] 39)).alloc (.cells #[.int .i64 (V : Int), .int .i64 (U : Int), .slice ao n capS] 39)).heap[w.heap.size]? = some (.cells #[.int .i64 (W : Int), .int .i64 (H : Int), .slice (some ⟨g, 0, none⟩) N cap] 39 (0, 0)) := blkUp (heap_alloc_new _ _) _
    have e2 : ((w.alloc (.cells #[.int .i64 (W : Int), .int .i64 (H : Int), .slice (some ⟨g, 0, none⟩) N cap] 39)).alloc (.cells #[.int .i64 (V : Int), .int .i64 (U : Int), .slice ao n capS] 39)).heap[w.heap.size + 1]? = some (.cells #[.int .i64 (V : Int), .int .i64 (U : Int), .slice ao n capS] 39 (0, 0)) := by
      have := heap_alloc_new (w.alloc (.cells #[.int .i64 (W : Int), .int .i64 (H : Int), .slice (some ⟨g, 0, none⟩) N cap] 39)) (.cells #[.int .i64 (V : Int), .int .i64 (U : Int), .slice ao n capS] 39)
      rwa [World.size_alloc] at this
    obtain ⟨a0, a1, a2, _⟩ := cell_of_three ((hf.block _ (lt_of_block e1) (by omega)).trans e1)
    obtain ⟨b0, b1, b2, _⟩ := cell_of_three ((hf.block _ (lt_of_block e2) (by omega)).trans e2)
    exact ⟨⟨a0, a1, a2⟩, b0, b1, b2⟩
  have hz : ((w.alloc (.cells #[.int .i64 (W : Int), .int .i64 (H : Int), .slice (some ⟨g, 0, none⟩) N cap] 39)).alloc (.cells #[.int .i64 (V : Int), .int .i64 (U : Int), .slice ao n capS] 39)).heap.size = w.heap.size + 2 := by simp
  clear hr hs h1 h2 h3 f3 l3 b1 b2 b3 b4 b5 b6 hop
  obtain ⟨⟨c0, c1, c2⟩, c3, c4, c5⟩ := HC.out _ (Fr.refl _ _)
  go_enter Tryd.func11, Tryd.ntmps11
  go_wp2_with fail
  generalize ((w.alloc (.cells #[.int .i64 (W : Int), .int .i64 (H : Int), .slice (some ⟨g, 0, none⟩) N cap] 39)).alloc (.cells #[.int .i64 (V : Int), .int .i64 (U : Int), .slice ao n capS] 39)) = w0 at *
  have HSZ0 : Hid (w0.heap.size = w.heap.size + 2) := hz
  clear hz
  refine (copy_any V U _ Ps _ (HS.out _ HA.out)).mono ?_
  rintro e w2 ⟨g2, cap2, rfl, hr2, hf2, hg2⟩
  have HR2 : Hid (RowAt w2 g2 cap2 V U Ps) := hr2
  have HF2 : Hid (Fr (fun _ => False) w0 w2) := hf2
  have HG2 : Hid (w0.heap.size ≤ g2 ∧ g2 < w2.heap.size) := ⟨hg2, hr2.lt⟩
  clear hr2 hf2 hg2
  rw [HS0.out] at HC c0 c1 c2 c3 c4 c5
  rw [HS0.out]
  obtain ⟨M, HM⟩ : ∃ M, Hid (U * stride V = M) := ⟨_, rfl⟩
  rw [HM.out]
  obtain ⟨w3, hw3⟩ : ∃ w3, w3 = w2.alloc (.cells #[.int .i64 V, .int .i64 U, .slice (some ⟨g2, 0, none⟩) M cap2] 39) := ⟨_, rfl⟩
  have HF3 : Hid (Fr (fun _ => False) w0 w3) := by rw [hw3]; exact HF2.out.alloc _
  have HR3 : Hid (RowAt w3 g cap W H P) := HR.out.kept (HA.out.trans HF3.out (fun _ _ h => h)) (fun h => h)
  have HFA : Hid (∀ w', Fr (fun k => k = g) w3 w' → Fr (fun k => k = g) w0 w') := fun w' f => (HF3.out.mono (fun _ _ h => h.elim)).trans f (fun _ _ h => h)
  obtain ⟨tb, HTB⟩ : ∃ tb, Hid (w2.heap.size = tb) := ⟨_, rfl⟩
  have HX : Hid (∀ w', Fr (fun k => k = g) w3 w' → RowAt w' g2 cap2 V U Ps) := fun w' f => by
    have hg := HG2.out
    have hgl := HGL.out
    have hz := HSZ0.out
    have h5 : RowAt w3 g2 cap2 V U Ps := by rw [hw3]; exact HR2.out.kept ((Fr.refl (fun _ => False) _).alloc _) (fun h => h)
    exact h5.kept f (by omega)
  have HK : Hid (∀ w', Fr (fun k => k = g) w3 w' → (w'.cell? ⟨s0, 0, none⟩ = some (.int .i64 W) ∧ w'.cell? ⟨s0, 1, none⟩ = some (.int .i64 H) ∧ w'.cell? ⟨s0, 2, none⟩ = some (.slice (some ⟨g, 0, none⟩) N cap) ∧ w'.cell? ⟨tb, 0, none⟩ = some (.int .i64 V) ∧ w'.cell? ⟨tb, 1, none⟩ = some (.int .i64 U) ∧ w'.cell? ⟨tb, 2, none⟩ = some (.slice (some ⟨g2, 0, none⟩) M cap2)) ∧ w'.cell? ⟨s0 + 1, 0, none⟩ = some (.int .i64 V) ∧ w'.cell? ⟨s0 + 1, 1, none⟩ = some (.int .i64 U)) := fun w' f => by
    have hg := HG2.out
    have hgl := HGL.out
    have hz := HSZ0.out
    have hsz : w3.heap.size = w2.heap.size + 1 := by rw [hw3, World.size_alloc]
    have hb : w3.heap[w2.heap.size]? = some (.cells #[.int .i64 V, .int .i64 U, .slice (some ⟨g2, 0, none⟩) M cap2] 39 (0, 0)) := by rw [hw3]; exact heap_alloc_new _ _
    obtain ⟨z0, z1, z2, _⟩ := cell_of_three ((f.block _ (by omega) (by omega)).trans hb)
    rw [HTB.out] at z0 z1 z2
    obtain ⟨⟨a0, a1, a2⟩, b0, b1, _⟩ := HC.out w' (HFA.out w' f)
    exact ⟨⟨a0, a1, a2, z0, z1, z2⟩, b0, b1⟩
  clear c0 c1 c2 c3 c4 c5
  obtain ⟨⟨c0, c1, c2, c3, c4, c5⟩, c6, c7⟩ := HK.out _ (Fr.refl _ _)
  rw [hw3] at c0 c1 c2 c6 c7
  go_wp2_with fail
  rw [← hw3] at c0 c1 c2 c6 c7
  rw [← hw3, HTB.out]
  clear hw3 HR2 HF2
  refine (HS1.out _).mono ?_
  rintro e w4 ⟨⟨A1, C1, rfl, s1⟩, rfl⟩
  have HP1 : Hid (SpanOK sx ww V A1 C1) := s1
  clear s1
  go_wp2_with fail
  refine (HS2.out _).mono ?_
  rintro e w5 ⟨⟨A2, C2, rfl, s2⟩, rfl⟩
  have HP2 : Hid (SpanOK dx ww W A2 C2) := s2
  clear s2
  go_wp2_with fail
  refine (HS3.out _).mono ?_
  rintro e w6 ⟨⟨A3, C3, rfl, s3⟩, rfl⟩
  have HP3 : Hid (SpanOK sy hh U A3 C3) := s3
  clear s3
  go_wp2_with fail
  refine (HS4.out _).mono ?_
  rintro e w7 ⟨⟨A4, C4, rfl, s4⟩, rfl⟩
  have HP4 : Hid (SpanOK dy hh H A4 C4) := s4
  clear s4
  go_wp2_with fail
  refine (greater_any A3 A4 _).mono ?_
  rintro e w8 ⟨rfl, rfl⟩
  clear c0 c1 c2 c3 c4 c5 c6 c7 d1 d2 d3 d4 d5
  go_wp2_with fail
  go_loopw [28, 29] (fun j _ wr => ∃ J : Int, max A3 A4 ≤ J ∧ (J ≤ min C3 C4 ∨ J = max A3 A4) ∧ j = .int .i64 J ∧ RowAt wr g cap W H (setG (blitPix (opB op) P Ps V U sx sy ww hh dx dy) dx dy (max A1 A2) (min C1 C2) (max A3 A4) J (max A1 A2) P) ∧ Fr (fun k => k = g) w8 wr) (fun j _ _ => (min C3 C4 - intOf j).toNat)
  case atStart => exact ⟨max A3 A4, Int.le_refl _, Or.inr rfl, rfl, by rw [setG_first]; exact HR3.out, Fr.refl _ _⟩
  case round =>
    obtain ⟨J, hJ1, hJ2, rfl, hrow, hfr⟩ := hrel
    have HJ : Hid (max A3 A4 ≤ J ∧ (J ≤ min C3 C4 ∨ J = max A3 A4)) := ⟨hJ1, hJ2⟩
    have HRo : Hid (RowAt wr g cap W H (setG (blitPix (opB op) P Ps V U sx sy ww hh dx dy) dx dy (max A1 A2) (min C1 C2) (max A3 A4) J (max A1 A2) P)) := hrow
    have HFr : Hid (Fr (fun k => k = g) w8 wr) := hfr
    clear hrow hfr hJ1 hJ2
    go_wp2_with fail
    refine (lesser_any C3 C4 _).mono ?_
    rintro e w9 ⟨rfl, rfl⟩
    by_cases hJH : J < min C3 C4
    · have hdJ : decide (J < min C3 C4) = true := decide_eq_true hJH
      have HOW2 : Hid ((0 ≤ dy + J ∧ dy + J < H) ∧ (0 ≤ sy + J ∧ sy + J < U) ∧ 0 ≤ J ∧ J < hh) := by
        have h := HP3.out.own
        have h2 := HP4.out.own
        have h3 := HJ.out
        have h4 := HP3.out.lo
        have h5 := HP3.out.hi
        show _ ∧ _
        omega
      go_wp2_with fail
      refine (greater_any A1 A2 _).mono ?_
      rintro e w10 ⟨rfl, rfl⟩
      go_wp2_with fail
      go_loopw [29] (fun i wr => ∃ I : Int, max A1 A2 ≤ I ∧ (I ≤ min C1 C2 ∨ I = max A1 A2) ∧ i = .int .i64 I ∧ RowAt wr g cap W H (setG (blitPix (opB op) P Ps V U sx sy ww hh dx dy) dx dy (max A1 A2) (min C1 C2) (max A3 A4) J I P) ∧ Fr (fun k => k = g) w8 wr) (fun i _ => (min C1 C2 - intOf i).toNat)
      case atStart => exact ⟨max A1 A2, Int.le_refl _, Or.inr rfl, rfl, HRo.out, HFr.out⟩
      case round =>
        obtain ⟨I, hI1, hI2, rfl, hrow, hfr⟩ := hrel
        have HI : Hid (max A1 A2 ≤ I ∧ (I ≤ min C1 C2 ∨ I = max A1 A2)) := ⟨hI1, hI2⟩
        have HRi : Hid (RowAt wr g cap W H (setG (blitPix (opB op) P Ps V U sx sy ww hh dx dy) dx dy (max A1 A2) (min C1 C2) (max A3 A4) J I P)) := hrow
        have HFi : Hid (Fr (fun k => k = g) w8 wr) := hfr
        clear hrow hfr hI1 hI2
        go_wp2_with fail
        refine (lesser_any C1 C2 _).mono ?_
        rintro e w11 ⟨rfl, rfl⟩
        by_cases hIW : I < min C1 C2
        · have hdI : decide (I < min C1 C2) = true := decide_eq_true hIW
          obtain ⟨⟨c0, c1, c2, c3, c4, c5⟩, _⟩ := HK.out _ HFi.out
          have HOW1 : Hid ((0 ≤ dx + I ∧ dx + I < W) ∧ (0 ≤ sx + I ∧ sx + I < V) ∧ 0 ≤ I ∧ I < ww) := by
            have h := HP1.out.own
            have h2 := HP2.out.own
            have h3 := HI.out
            have h4 := HP1.out.lo
            have h5 := HP1.out.hi
            show _ ∧ _
            omega
          obtain ⟨a0, ha0⟩ : ∃ a0 : Nat, dx + I = (a0 : Int) := ⟨(dx + I).toNat, by have := HOW1.out; omega⟩
          obtain ⟨b0, hb0⟩ : ∃ b0 : Nat, dy + J = (b0 : Int) := ⟨(dy + J).toNat, by have := HOW2.out; omega⟩
          obtain ⟨p0, hp0⟩ : ∃ p0 : Nat, sx + I = (p0 : Int) := ⟨(sx + I).toNat, by have := HOW1.out; omega⟩
          obtain ⟨q0, hq0⟩ : ∃ q0 : Nat, sy + J = (q0 : Int) := ⟨(sy + J).toNat, by have := HOW2.out; omega⟩
          have hw1 : IntKind.i64.wrap (dx + I) = (a0 : Int) := by have := HOW1.out; rw [IntKind.wrap_i64]; omega
          have hw2 : IntKind.i64.wrap (dy + J) = (b0 : Int) := by have := HOW2.out; rw [IntKind.wrap_i64]; omega
          have hw3 : IntKind.i64.wrap (sx + I) = (p0 : Int) := by have := HOW1.out; rw [IntKind.wrap_i64]; omega
          have hw4 : IntKind.i64.wrap (sy + J) = (q0 : Int) := by have := HOW2.out; rw [IntKind.wrap_i64]; omega
          have hw5 : IntKind.i64.wrap (I + 1) = I + 1 := by have h3 := HOW1.out; have h4 := HBB.out; rw [IntKind.wrap_i64]; omega
          have HQ0 : Hid (dx + I = (a0 : Int) ∧ dy + J = (b0 : Int) ∧ sx + I = (p0 : Int) ∧ sy + J = (q0 : Int)) := ⟨ha0, hb0, hp0, hq0⟩
          clear ha0 hb0 hp0 hq0
          have HG1 : Hid (∀ w', Fr (fun _ => False) w11 w' → Calls Tryd.prog 21 #[.agg #[.int .i64 (W : Int), .int .i64 (H : Int), .slice (some ⟨g, 0, none⟩) N cap], .int .i64 (a0 : Int), .int .i64 (b0 : Int)] w' fun e w'' => e = .returned (.int .i64 ((P a0 b0).toNat : Nat)) ∧ Fr (fun _ => False) w' w'') := fun w' hf => by
            have h1 := HB.out
            have h2 := (HRi.out.kept hf (fun h => h)).seen (size_facts h1.1 h1.2.1 h1.2.2).2.2
            obtain ⟨q1, q2, q3, q4⟩ := HQ0.out
            have o1 := HOW1.out
            have o2 := HOW2.out
            have h4 := zget_in W H _ (setG (blitPix (opB op) P Ps V U sx sy ww hh dx dy) dx dy (max A1 A2) (min C1 C2) (max A3 A4) J I P) a0 b0 w' h2 h1.1 h1.2.1 h1.2.2 (by omega) (by omega)
            rw [setG_at q1 q2, ← HN.out] at h4
            exact h4
          have HG3 : Hid (∀ w', Fr (fun _ => False) w11 w' → Calls Tryd.prog 21 #[.agg #[.int .i64 (V : Int), .int .i64 (U : Int), .slice (some ⟨g2, 0, none⟩) M cap2], .int .i64 (p0 : Int), .int .i64 (q0 : Int)] w' fun e w'' => e = .returned (.int .i64 ((Ps p0 q0).toNat : Nat)) ∧ Fr (fun _ => False) w' w'') := fun w' hf => by
            have h1 := HBS.out
            have h2 := (HX.out w' (HFi.out.trans hf (fun _ _ h => h.elim))).seen (size_facts h1.1 h1.2.1 h1.2.2).2.2
            obtain ⟨q1, q2, q3, q4⟩ := HQ0.out
            have o1 := HOW1.out
            have o2 := HOW2.out
            have h4 := zget_in V U _ Ps p0 q0 w' h2 h1.1 h1.2.1 h1.2.2 (by omega) (by omega)
            rw [HM.out] at h4
            exact h4
          have HD : Hid (∀ w' : World, Calls Tryd.prog 42 #[.int .i64 op, .int .i64 ((P a0 b0).toNat : Nat), .int .i64 ((Ps p0 q0).toNat : Nat)] w' fun e w'' => e = .returned (.int .i64 ((opB op (P a0 b0) (Ps p0 q0)).toNat : Nat)) ∧ w'' = w') := fun w' => do_any op (P a0 b0) (Ps p0 q0) w' HOP.out
          have HPu : Hid (∀ w', Fr (fun _ => False) w11 w' → Calls Tryd.prog 35 #[.agg #[.int .i64 (W : Int), .int .i64 (H : Int), .slice (some ⟨g, 0, none⟩) N cap], .int .i64 (a0 : Int), .int .i64 (b0 : Int), .int .i64 ((opB op (P a0 b0) (Ps p0 q0)).toNat : Nat)] w' fun e w'' => e = .returned (.tuple #[]) ∧ RowAt w'' g cap W H (setG (blitPix (opB op) P Ps V U sx sy ww hh dx dy) dx dy (max A1 A2) (min C1 C2) (max A3 A4) J (I + 1) P) ∧ Fr (fun k => k = g) w' w'') := fun w' hf => by
            have h1 := HB.out
            obtain ⟨q1, q2, q3, q4⟩ := HQ0.out
            have o1 := HOW1.out
            have o2 := HOW2.out
            have o3 := HI.out
            have o4 := HJ.out
            rw [HN.out, setG_next (A0 := a0) (E0 := b0) o3.1 hIW o4.1 q1 q2, blitPix_in (opB op) P Ps q1 q2 q3 q4 o1.2.2 o2.2.2 (by omega) (by omega)]
            exact zput_any W H g cap (setG (blitPix (opB op) P Ps V U sx sy ww hh dx dy) dx dy (max A1 A2) (min C1 C2) (max A3 A4) J I P) a0 b0 _ w' (HRi.out.kept hf (fun h => h)) h1.1 h1.2.1 h1.2.2 (by omega) (by omega)
          generalize (opB op (P a0 b0) (Ps p0 q0)).toNat = on at *
          generalize (P a0 b0).toNat = pn at *
          generalize (Ps p0 q0).toNat = qn at *
          have HCI : Hid (∀ w', Fr (fun k => k = g) w11 w' → w'.cell? ⟨s0, 0, none⟩ = some (.int .i64 W) ∧ w'.cell? ⟨s0, 1, none⟩ = some (.int .i64 H) ∧ w'.cell? ⟨s0, 2, none⟩ = some (.slice (some ⟨g, 0, none⟩) N cap) ∧ w'.cell? ⟨tb, 0, none⟩ = some (.int .i64 V) ∧ w'.cell? ⟨tb, 1, none⟩ = some (.int .i64 U) ∧ w'.cell? ⟨tb, 2, none⟩ = some (.slice (some ⟨g2, 0, none⟩) M cap2)) := fun w' hf => (HK.out _ (HFi.out.trans hf (fun _ _ h => h))).1
          go_wp2_with fail
          clear hdJ hdI
          go_region_held3 (fun w' => w'.cell? ⟨s0, 0, none⟩ = some (.int .i64 W) ∧ w'.cell? ⟨s0, 1, none⟩ = some (.int .i64 H) ∧ w'.cell? ⟨s0, 2, none⟩ = some (.slice (some ⟨g, 0, none⟩) N cap) ∧ w'.cell? ⟨tb, 0, none⟩ = some (.int .i64 V) ∧ w'.cell? ⟨tb, 1, none⟩ = some (.int .i64 U) ∧ w'.cell? ⟨tb, 2, none⟩ = some (.slice (some ⟨g2, 0, none⟩) M cap2)) (exact HCI.out _ (by repeat (first | with_reducible exact Fr.refl _ _ | with_reducible refine Fr.drew ?_ | with_reducible refine Fr.trans ?_ hf9 (fun _ _ hh => hh) | with_reducible refine Fr.trans ?_ hf8 (fun _ _ hh => hh.elim) | with_reducible refine Fr.trans ?_ hf7 (fun _ _ hh => hh.elim)))) (first | (go_at_call 21; first | (with_reducible refine (HG1.out _ (by repeat (first | with_reducible exact Fr.refl _ _ | with_reducible refine Fr.drew ?_ | with_reducible refine Fr.trans ?_ hf8 (fun _ _ hh => hh)))).mono ?_; rintro e w7 ⟨rfl, hf7⟩) | (with_reducible refine (HG3.out _ (by repeat (first | with_reducible exact Fr.refl _ _ | with_reducible refine Fr.drew ?_ | with_reducible refine Fr.trans ?_ hf7 (fun _ _ hh => hh)))).mono ?_; rintro e w8 ⟨rfl, hf8⟩)) | (go_at_call 42; refine (HD.out _).mono ?_; rintro e wd ⟨rfl, rfl⟩) | (go_at_call 35; refine (HPu.out _ (by repeat (first | with_reducible exact Fr.refl _ _ | with_reducible refine Fr.drew ?_ | with_reducible refine Fr.trans ?_ hf8 (fun _ _ hh => hh) | with_reducible refine Fr.trans ?_ hf7 (fun _ _ hh => hh)))).mono ?_; rintro e w9 ⟨rfl, hr9, hf9⟩))
          all_goals go_wp2_with fail
          all_goals go_roundw
          all_goals first
            | (refine ⟨I + 1, by have := HI.out; omega, Or.inl (by omega), rfl, hr9, HFi.out.trans ?_ (fun _ _ hh => hh)⟩; repeat (first | with_reducible exact Fr.refl _ _ | with_reducible refine Fr.drew ?_ | with_reducible refine Fr.trans ?_ hf9 (fun _ _ hh => hh) | with_reducible refine Fr.trans ?_ hf8 (fun _ _ hh => hh.elim) | with_reducible refine Fr.trans ?_ hf7 (fun _ _ hh => hh.elim)))
            | (simp [intOf]; omega)
        · have hdI : decide (I < min C1 C2) = false := decide_eq_false hIW
          have hw3 : IntKind.i64.wrap (J + 1) = J + 1 := by have h3 := HOW2.out; have h4 := HBB.out; rw [IntKind.wrap_i64]; omega
          go_wp2_with fail
          go_roundw
          case rel => exact ⟨J + 1, by have := HJ.out; omega, Or.inl (by omega), rfl, by rw [← setG_row (i := I) (by omega)]; exact HRi.out, HFi.out⟩
          case measure => simp [intOf]; omega
    · have hdJ : decide (J < min C3 C4) = false := decide_eq_false hJH
      go_wp2_with fail
      go_ret
      exact ⟨rfl, HRo.out.pixO (blit_setG (opB op) P Ps HP1.out HP2.out HP3.out HP4.out (by omega)), (HA.out.mono (fun _ _ h => h.elim)).trans (HFA.out _ HFr.out) (fun _ _ h => h)⟩
end Go.Proofs.YtflhbmapikdmhaaDoor
