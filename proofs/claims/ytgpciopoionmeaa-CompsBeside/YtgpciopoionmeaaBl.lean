/- The law 'CompsBeside'. -/
import Derived.Test.YtgpciopoionmeaaWk
import Derived.Test.YtgpciopoionmeaaBs
import Derived.Test.YtgpciopoionmeaaSm
import Derived.Test.YtgpciopoionmeaaFr2
import Derived.Test.YtgpciopoionmeaaEp
import Derived.Test.YtgpciopoionmeaaLy
namespace Go.Proofs.Ytgpciopoionmeaa
open Go.RowKit

/-- One bitmap above, one below. -/
def twoP (W1 H1 W2 H2 : Nat) (P1 P2 : Nat → Nat → Bool) : Nat → Nat → Bool := laidTo 0 (H1 + 1) W2 H2 0 P2 (laidTo 0 0 W1 H1 0 P1 (fun _ _ => false))
theorem twoP_two (W1 H1 W2 H2 V : Nat) (P1 P2 : Nat → Nat → Bool) (h1 : W1 ≤ V) (h2 : W2 ≤ V) : Two (Bk V (H1 + 1 + H2) (twoP W1 H1 W2 H2 P1 P2)) (Bk W1 H1 P1) (Bk W2 H2 P2) (H1 + 1) := by
  constructor
  · intro p
    unfold Bk twoP laidTo
    simp only
    by_cases c : H1 + 1 ≤ p.2
    · by_cases d : p.1 < W2 ∧ p.2 < H1 + 1 + H2
      · rw [if_pos (by omega), Nat.sub_zero]
        constructor
        · rintro ⟨a, b, e⟩; exact Or.inr ⟨c, by omega, by omega, e⟩
        · rintro (⟨a, b, e⟩ | ⟨a, b, d', e⟩)
          · omega
          · exact ⟨by omega, by omega, e⟩
      · rw [if_neg (by omega), if_neg (by omega)]
        constructor
        · rintro ⟨a, b, e⟩; simp at e
        · rintro (⟨a, b, e⟩ | ⟨a, b, d', e⟩) <;> omega
    · rw [if_neg (by omega)]
      by_cases d : p.1 < W1 ∧ p.2 < H1
      · rw [if_pos (by omega), Nat.sub_zero, Nat.sub_zero]
        constructor
        · rintro ⟨a, b, e⟩; exact Or.inl ⟨d.1, d.2, e⟩
        · rintro (⟨a, b, e⟩ | ⟨a, b, d', e⟩)
          · exact ⟨by omega, by omega, e⟩
          · omega
      · rw [if_neg (by omega)]
        constructor
        · rintro ⟨a, b, e⟩; simp at e
        · rintro (⟨a, b, e⟩ | ⟨a, b, d', e⟩) <;> omega
  · intro p hp
    have := hp.2.1
    omega

theorem rise_len {n : Nat} : ∀ (l : List Nat) (lo : Nat), l.Pairwise (· < ·) → (∀ a ∈ l, lo ≤ a ∧ a < n) → lo ≤ n → lo + l.length ≤ n
  | [], _, _, _, h => by simpa using h
  | x :: t, lo, hp, hm, h => by
    obtain ⟨h1, h2⟩ := List.pairwise_cons.1 hp
    have hx := hm x (List.mem_cons_self ..)
    have := rise_len t (x + 1) h2 (fun a ha => ⟨h1 a ha, (hm a (List.mem_cons_of_mem _ ha)).2⟩) (by omega)
    simp only [List.length_cons]; omega
/-- There are no more pieces than pixels. -/
theorem firsts_len {W H : Nat} {P : Nat → Nat → Bool} {fs : List (Nat × Nat)} (hf : Firsts (Bk W H P) fs) : fs.length ≤ W * H := by
  have := rise_len (n := H * W) (fs.map fun p => p.2 * W + p.1) 0 ?_ ?_ (Nat.zero_le _)
  · rw [List.length_map, Nat.mul_comm H W] at this; omega
  · rw [List.pairwise_map]
    refine hf.sorted.imp_of_mem (fun {a b} ha hb h => ?_)
    have h1 := ((hf.mem a).1 ha).1.1
    rcases h with h | ⟨e, h⟩
    · have := Nat.mul_le_mul_right W (show a.2 + 1 ≤ b.2 by omega)
      rw [Nat.add_mul, Nat.one_mul] at this
      omega
    · rw [e]; omega
  · intro a ha
    obtain ⟨p, hp, rfl⟩ := List.mem_map.1 ha
    have h1 := ((hf.mem p).1 hp).1
    have := Nat.mul_le_mul_right W (show p.2 + 1 ≤ H from h1.2.1)
    rw [Nat.add_mul, Nat.one_mul] at this
    have := h1.1
    exact ⟨Nat.zero_le _, by omega⟩

theorem cell_five_new2 (w : World) (o : Obj) (a b c d e : Value) (t : TypeId) (j : Nat) (u : Value) (h : [a, b, c, d, e][j]? = some u) : ((w.alloc o).alloc (.cells #[a, b, c, d, e] t)).cell? ((⟨w.heap.size + 1, 0, none⟩ : Addr).add j) = some u := by
  have := cell_five_new (w.alloc o) a b c d e t j u h
  rwa [World.size_alloc] at this

set_option maxRecDepth 100000 in
set_option maxHeartbeats 8000000 in
theorem beside_main (W1 H1 W2 H2 : Nat) (v1 v2 : Value) (P1 P2 : Nat → Nat → Bool) (w : World) (b1 : Bm w v1 W1 H1 P1) (b2 : Bm w v2 W2 H2 P2) :
    Calls Try.prog 8 #[.agg #[.int .i64 W1, .int .i64 H1, v1, .int .i64 W2, .int .i64 H2, v2]] w fun e w' => e = .returned (.bool true) ∧ Fr (fun _ => False) w w' := by
  obtain ⟨i0, hi, hz0, hz1, hz2⟩ := info_parts Try.infoPiece
  have HB1 : Hid (∀ w', Fr (fun _ => False) w w' → Bm w' v1 W1 H1 P1) := fun w' f => b1.kept f
  have HB2 : Hid (∀ w', Fr (fun _ => False) w w' → Bm w' v2 W2 H2 P2) := fun w' f => b2.kept f
  have HMY : Hid (∀ w', Fr (fun _ => False) w w' → (Calls Try.prog 21 #[.agg #[.int .i64 W1, .int .i64 H1, v1]] w' fun e w'' => e = .returned (.bool true) ∧ Fr (fun _ => False) w' w'') ∧ (Calls Try.prog 21 #[.agg #[.int .i64 W2, .int .i64 H2, v2]] w' fun e w'' => e = .returned (.bool true) ∧ Fr (fun _ => False) w' w'')) := fun w' f => by
    obtain ⟨f1, f2, _⟩ := size_facts b1.h1 b1.h2 b1.h3
    obtain ⟨g1, g2, _⟩ := size_facts b2.h1 b2.h2 b2.h3
    have m1 := may_any W1 H1 v1 _ w' (by omega) (by omega) (b1.kept f).seen (render_lt' W1 H1 P1)
    have m2 := may_any W2 H2 v2 _ w' (by omega) (by omega) (b2.kept f).seen (render_lt' W2 H2 P2)
    rw [render_valid W1 H1 P1 b1.h1 b1.h2 b1.h3] at m1
    rw [render_valid W2 H2 P2 b2.h1 b2.h2 b2.h3] at m2
    exact ⟨m1, m2⟩
  obtain ⟨f1, f2, _⟩ := size_facts b1.h1 b1.h2 b1.h3
  obtain ⟨g1, g2, _⟩ := size_facts b2.h1 b2.h2 b2.h3
  have hW1 := b1.h1
  have hH1 := b1.h2
  have hW2 := b2.h1
  have hH2 := b2.h2
  obtain ⟨ao1, cap1, rfl, -, -⟩ := b1.seen
  obtain ⟨ao2, cap2, rfl, -, -⟩ := b2.seen
  generalize (render W1 H1 P1).length = n1 at *
  generalize (render W2 H2 P2).length = n2 at *
  clear b1 b2
  have HA : Hid (Fr (fun _ => False) w (w.alloc (.cells #[.int .i64 W1, .int .i64 H1, .slice ao1 n1 cap1, .int .i64 W2, .int .i64 H2, .slice ao2 n2 cap2] 57))) := (Fr.refl _ _).alloc _
  have HBX : Hid (∀ S w', Fr S (w.alloc (.cells #[.int .i64 W1, .int .i64 H1, .slice ao1 n1 cap1, .int .i64 W2, .int .i64 H2, .slice ao2 n2 cap2] 57)) w' → ¬ S w.heap.size → w'.cell? ⟨w.heap.size, 0, none⟩ = some (.int .i64 W1) ∧ w'.cell? ⟨w.heap.size, 1, none⟩ = some (.int .i64 H1) ∧ w'.cell? ⟨w.heap.size, 2, none⟩ = some (.slice ao1 n1 cap1) ∧ w'.cell? ⟨w.heap.size, 3, none⟩ = some (.int .i64 W2) ∧ w'.cell? ⟨w.heap.size, 4, none⟩ = some (.int .i64 H2) ∧ w'.cell? ⟨w.heap.size, 5, none⟩ = some (.slice ao2 n2 cap2)) := fun S w' hf hS => by
    have hB : w'.heap[w.heap.size]? = some (.cells #[.int .i64 W1, .int .i64 H1, .slice ao1 n1 cap1, .int .i64 W2, .int .i64 H2, .slice ao2 n2 cap2] 57 (0, 0)) := by
      rw [hf.block _ (by simp) hS]; exact heap_alloc_new _ _
    refine ⟨?_, ?_, ?_, ?_, ?_, ?_⟩ <;> simp [World.cell?, hB]
  have HWP : Hid (w.heap.size < (w.alloc (.cells #[.int .i64 W1, .int .i64 H1, .slice ao1 n1 cap1, .int .i64 W2, .int .i64 H2, .slice ao2 n2 cap2] 57)).heap.size) := by show _ < _; simp
  go_enter Try.func8, Try.ntmps8
  obtain ⟨c0, c1, c2, c3, c4, c5⟩ := HBX.out (fun _ => False) _ (Fr.refl _ _) (fun h => h)
  go_wp2_with fail
  generalize hw0 : w.alloc (.cells #[.int .i64 W1, .int .i64 H1, .slice ao1 n1 cap1, .int .i64 W2, .int .i64 H2, .slice ao2 n2 cap2] 57) = w0 at *
  clear hw0
  refine (HMY.out _ HA.out).1.mono ?_
  rintro e w1 ⟨rfl, hf1⟩
  have HF1 : Hid (Fr (fun _ => False) w0 w1) := hf1
  clear hf1 c0 c1 c2 c3 c4 c5
  obtain ⟨c0, c1, c2, c3, c4, c5⟩ := HBX.out _ _ HF1.out (fun h => h)
  go_wp2_with fail
  refine (HMY.out _ (HA.out.trans HF1.out (fun _ _ h => h))).2.mono ?_
  rintro e w2 ⟨rfl, hf2⟩
  have HF2 : Hid (Fr (fun _ => False) w0 w2) := HF1.out.trans hf2 (fun _ _ h => h)
  clear hf2 c0 c1 c2 c3 c4 c5 HF1 HMY
  obtain ⟨c0, c1, c2, c3, c4, c5⟩ := HBX.out _ _ HF2.out (fun h => h)
  go_wp2_with fail
  refine (small_any w2.heap.size 0 2 2 20000 _ (by omega) (fun i hi => ?_)).mono ?_
  · have hB : (w2.alloc (.cells #[.int .i64 W1, .int .i64 H1, .slice ao1 n1 cap1, .int .i64 W2, .int .i64 H2, .slice ao2 n2 cap2] 25)).heap[w2.heap.size]? = some (.cells #[.int .i64 W1, .int .i64 H1, .slice ao1 n1 cap1, .int .i64 W2, .int .i64 H2, .slice ao2 n2 cap2] 25 (0, 0)) := heap_alloc_new w2 _
    rcases (show i = 0 ∨ i = 1 by omega) with rfl | rfl
    · exact ⟨ao1, n1, cap1, by unfold World.cell?; rw [hB]; rfl⟩
    · exact ⟨ao2, n2, cap2, by unfold World.cell?; rw [hB]; rfl⟩
  rintro e w4 ⟨bb, rfl, q, hw4⟩
  have HF4 : Hid (Fr (fun _ => False) w0 w4) := by rw [hw4]; exact (HF2.out.alloc _).drewN q
  clear hw4 c0 c1 c2 c3 c4 c5 HF2
  obtain ⟨c0, c1, c2, c3, c4, c5⟩ := HBX.out _ _ HF4.out (fun h => h)
  cases bb with
  | false =>
    go_wp2_with fail
    refine (wakes_any _).mono ?_
    rintro e w30 ⟨rfl, hf30⟩
    have HF30 : Hid (Fr (fun _ => False) w w30) := (HA.out.trans HF4.out (fun _ _ h => h)).trans hf30 (fun _ _ h => h)
    clear hf30
    go_wp2_with fail
    go_ret
    exact ⟨rfl, HF30.out⟩
  | true =>
    by_cases hgt : W1 < W2
    · have dg : decide (W1 < W2) = true := decide_eq_true hgt
      obtain ⟨T, hT⟩ : ∃ T, T = H1 + 1 + H2 := ⟨_, rfl⟩
      have HT : Hid (T = H1 + 1 + H2) := hT
      have t1 : IntKind.i64.wrap ((H1 : Int) + 1) = ((H1 + 1 : Nat) : Int) := by rw [IntKind.wrap_i64]; omega
      have t2 : IntKind.i64.wrap (((H1 + 1 : Nat) : Int) + (H2 : Int)) = (T : Int) := by rw [IntKind.wrap_i64]; omega
      have t3 : (H1 : Int) + 1 + (H2 : Int) = (T : Int) := by omega
      have hTb : T ≤ 2097153 := by omega
      clear hT
      go_wp2_with fail
      refine (zSize_any W2 T w4 (by omega) (by omega)).mono ?_
      rintro e w5 ⟨rfl, hf5⟩
      have HF5 : Hid (Fr (fun _ => False) w0 w5) := by rw [hf5]; exact HF4.out
      clear hf5 c0 c1 c2 c3 c4 c5
      obtain ⟨c0, c1, c2, c3, c4, c5⟩ := HBX.out _ _ HF5.out (fun h => h)
      cases hsz : sizeOK W2 T with
      | false =>
        go_wp2_with fail
        refine (wakes_any _).mono ?_
        rintro e w30 ⟨rfl, hf30⟩
        have HF30 : Hid (Fr (fun _ => False) w w30) := (HA.out.trans HF5.out (fun _ _ h => h)).trans hf30 (fun _ _ h => h)
        clear hf30
        go_wp2_with fail
        go_ret
        exact ⟨rfl, HF30.out⟩
      | true =>
        have HSZ : Hid (1 ≤ W2 ∧ 1 ≤ T ∧ W2 * T ≤ 1048576) := by
          unfold sizeOK at hsz
          have := of_decide_eq_true hsz
          rw [← Int.natCast_mul] at this
          show _ ∧ _ ∧ _
          omega
        have t4 : IntKind.i64.wrap ((W2 : Int) + 64) = ((W2 + 64 : Nat) : Int) := by rw [IntKind.wrap_i64]; omega
        have hmb : (W2 + 64) * T ≤ 1048640 * 2097153 := Nat.mul_le_mul (by omega) hTb
        have t5 : IntKind.i64.wrap (((W2 + 64 : Nat) : Int) * (T : Int)) = (((W2 + 64) * T : Nat) : Int) := by rw [IntKind.wrap_i64, ← Int.natCast_mul]; omega
        have t6 : ((W2 : Int) + 64) * (T : Int) = (((W2 + 64) * T : Nat) : Int) := by rw [Int.natCast_mul]; rfl
        generalize (W2 + 64) * T = MM at *
        by_cases hbig : 200000 < MM
        · have d1 : decide ((200000 : Int) < (MM : Int)) = true := decide_eq_true (by omega)
          have d2 : decide ((MM : Int) > 200000) = true := decide_eq_true (by omega)
          go_wp2_with fail
          refine (wakes_any _).mono ?_
          rintro e w30 ⟨rfl, hf30⟩
          have HF30 : Hid (Fr (fun _ => False) w w30) := (HA.out.trans HF5.out (fun _ _ h => h)).trans hf30 (fun _ _ h => h)
          clear hf30
          go_wp2_with fail
          go_ret
          exact ⟨rfl, HF30.out⟩
        · have d1 : decide ((200000 : Int) < (MM : Int)) = false := decide_eq_false (by omega)
          have d2 : decide ((MM : Int) > 200000) = false := decide_eq_false (by omega)
          go_wp2_with fail
          refine (zwhite_any W2 T w5 HSZ.out.1 HSZ.out.2.1 HSZ.out.2.2).mono ?_
          rintro e w6 ⟨g, rfl, hr6, hf6, hg6⟩
          have HR6 : Hid (RowAt w6 g (T * stride W2) W2 T (fun _ _ => false)) := hr6
          have HF6 : Hid (Fr (fun _ => False) w0 w6) := HF5.out.trans hf6 (fun _ _ h => h)
          have hg0 : w0.heap.size ≤ g := by have := HF5.out.size; omega
          have hg6' : g < w6.heap.size := hr6.lt
          clear hr6 hf6 hg6 c0 c1 c2 c3 c4 c5
          generalize hcg : T * stride W2 = cg at *
          have HCG : Hid (T * stride W2 = cg) := hcg
          clear hcg
          have HRA : Hid (RowAt (w6.alloc (.cells #[.int .i64 W2, .int .i64 T, .slice (some ⟨g, 0, none⟩) cg cg] 25)) g cg W2 T (fun _ _ => false)) := HR6.out.kept ((Fr.refl (fun _ => False) _).alloc _) (fun h => h)
          have HFA : Hid (Fr (fun _ => False) w0 (w6.alloc (.cells #[.int .i64 W2, .int .i64 T, .slice (some ⟨g, 0, none⟩) cg cg] 25))) := HF6.out.alloc _
          have HCB : Hid (∀ S w', Fr S (w6.alloc (.cells #[.int .i64 W2, .int .i64 T, .slice (some ⟨g, 0, none⟩) cg cg] 25)) w' → ¬ S w6.heap.size → w'.cell? ⟨w6.heap.size, 0, none⟩ = some (.int .i64 W2) ∧ w'.cell? ⟨w6.heap.size, 1, none⟩ = some (.int .i64 T) ∧ w'.cell? ⟨w6.heap.size, 2, none⟩ = some (.slice (some ⟨g, 0, none⟩) cg cg)) := fun S w' f hS => by
            obtain ⟨z0, z1, z2, _⟩ := cell_of_three ((f.block w6.heap.size (by simp) hS).trans (heap_alloc_new w6 _))
            exact ⟨z0, z1, z2⟩
          obtain ⟨c0, c1, c2, c3, c4, c5⟩ := HBX.out _ _ HFA.out (fun h => h)
          obtain ⟨e0, e1, e2⟩ := HCB.out (fun _ => False) _ (Fr.refl _ _) (fun h => h)
          generalize hwA : w6.alloc (.cells #[.int .i64 W2, .int .i64 T, .slice (some ⟨g, 0, none⟩) cg cg] 25) = wA at *
          have HWA : Hid (w6.heap.size < wA.heap.size) := by show _ < _; rw [← hwA]; simp
          have HL1 : Hid (Calls Try.prog 31 #[.agg #[.int .i64 W2, .int .i64 T, .slice (some ⟨g, 0, none⟩) cg cg], .int .i64 0, .int .i64 0, .int .i64 4, .agg #[.int .i64 W1, .int .i64 H1, .slice ao1 n1 cap1]] wA fun e w' => e = .returned (.tuple #[]) ∧ RowAt w' g cg W2 T (laidTo 0 0 W1 H1 0 P1 (fun _ _ => false)) ∧ Fr (fun k => k = g) wA w') := by
            have := lay_any W2 T g cg (fun _ _ => false) 0 0 W1 H1 (.slice ao1 n1 cap1) P1 wA HRA.out (fun w' f => (HB1.out _ (HA.out.trans (HFA.out.trans f (fun k hk e => by omega)) (fun _ _ h => h)))) HSZ.out.1 HSZ.out.2.1 HSZ.out.2.2 (by omega) (by have := HT.out; omega)
            rw [HCG.out] at this
            exact this
          go_wp2_with fail
          (try rw [hwA])
          clear hwA
          refine HL1.out.mono ?_
          rintro e w7 ⟨rfl, hr7, hf7⟩
          have HR7 : Hid (RowAt w7 g cg W2 T (laidTo 0 0 W1 H1 0 P1 (fun _ _ => false))) := hr7
          have HF7 : Hid (Fr (fun k => k = g) wA w7) := hf7
          have HF07 : Hid (Fr (fun _ => False) w0 w7) := HFA.out.trans hf7 (fun k hk e => by omega)
          clear hr7 hf7 c0 c1 c2 c3 c4 c5 e0 e1 e2 HL1
          obtain ⟨c0, c1, c2, c3, c4, c5⟩ := HBX.out _ _ HF07.out (fun h => h)
          obtain ⟨e0, e1, e2⟩ := HCB.out _ _ HF7.out (fun e => by omega)
          have HL2 : Hid (Calls Try.prog 31 #[.agg #[.int .i64 W2, .int .i64 T, .slice (some ⟨g, 0, none⟩) cg cg], .int .i64 0, .int .i64 (H1 + 1 : Nat), .int .i64 4, .agg #[.int .i64 W2, .int .i64 H2, .slice ao2 n2 cap2]] w7 fun e w' => e = .returned (.tuple #[]) ∧ RowAt w' g cg W2 T (twoP W1 H1 W2 H2 P1 P2) ∧ Fr (fun k => k = g) w7 w') := by
            have := lay_any W2 T g cg _ 0 (H1 + 1) W2 H2 (.slice ao2 n2 cap2) P2 w7 HR7.out (fun w' f => (HB2.out _ (HA.out.trans (HF07.out.trans f (fun k hk e => by omega)) (fun _ _ h => h)))) HSZ.out.1 HSZ.out.2.1 HSZ.out.2.2 (by omega) (by have := HT.out; omega)
            rw [HCG.out] at this
            exact this
          go_wp2_with fail
          refine HL2.out.mono ?_
          rintro e w8 ⟨rfl, hr8, hf8⟩
          have HR8 : Hid (RowAt w8 g cg W2 T (twoP W1 H1 W2 H2 P1 P2)) := hr8
          have HF8 : Hid (Fr (fun k => k = g) wA w8) := HF7.out.trans hf8 (fun _ _ h => h)
          have HF08 : Hid (Fr (fun _ => False) w0 w8) := HF07.out.trans hf8 (fun k hk e => by omega)
          clear hr8 hf8 c0 c1 c2 c3 c4 c5 e0 e1 e2 HL2 HR7 HF7 HF07
          obtain ⟨c0, c1, c2, c3, c4, c5⟩ := HBX.out _ _ HF08.out (fun h => h)
          have HCX : Hid (∀ S w', Fr S w8 w' → ¬ S w6.heap.size → w'.cell? ⟨w6.heap.size, 0, none⟩ = some (.int .i64 W2) ∧ w'.cell? ⟨w6.heap.size, 1, none⟩ = some (.int .i64 T) ∧ w'.cell? ⟨w6.heap.size, 2, none⟩ = some (.slice (some ⟨g, 0, none⟩) cg cg)) := fun S w' f hS => by
            have f2 : Fr (fun k => k = g ∨ S k) wA w' := (HF8.out.mono (fun k _ h => Or.inl h)).trans f (fun k _ h => Or.inr h)
            exact HCB.out _ w' f2 (fun h => h.elim (fun e => by omega) hS)
          have HBC : Hid (∀ w', Fr (fun _ => False) w8 w' → Bm w' (.slice (some ⟨g, 0, none⟩) cg cg) W2 T (twoP W1 H1 W2 H2 P1 P2)) := fun w' f => by
            have hr := HR8.out.kept f (fun h => h)
            have hs := hr.seen (size_facts HSZ.out.1 HSZ.out.2.1 HSZ.out.2.2).2.2
            rw [HCG.out] at hs
            refine ⟨hs, fun ao n c e => ?_, HSZ.out.1, HSZ.out.2.1, HSZ.out.2.2⟩
            simp only [Value.slice.injEq] at e
            obtain ⟨_, rfl, rfl⟩ := e
            have := of_slice hr
            rw [HCG.out] at this
            exact this
          go_wp2_with fail
          refine (cof_ok W1 H1 _ P1 _ (HB1.out _ (HA.out.trans HF08.out (fun _ _ h => h)))).mono ?_
          rintro e w9 ⟨r1, L1, fs1, rfl, ho1, hfs1, hps1, hf9⟩
          obtain ⟨aoL1, cL1, rfl⟩ := own_slice ho1.own
          have HO1 : Hid (OwnPs w9 w8.heap.size (.slice aoL1 L1.length cL1) L1) := ho1
          have HF89 : Hid (Fr (fun _ => False) w8 w9) := hf9
          have HFS1 : Hid (Firsts (Bk W1 H1 P1) fs1) := hfs1
          have HPS1 : Hid (Pcs (Bk W1 H1 P1) fs1 (L1.map (·.1))) := hps1
          clear ho1 hf9 hfs1 hps1 c0 c1 c2 c3 c4 c5
          have HF09 : Hid (Fr (fun _ => False) w0 w9) := HF08.out.trans HF89.out (fun _ _ h => h)
          obtain ⟨c0, c1, c2, c3, c4, c5⟩ := HBX.out _ _ HF09.out (fun h => h)
          go_wp2_with fail
          refine (cof_ok W2 H2 _ P2 _ (HB2.out _ (HA.out.trans HF09.out (fun _ _ h => h)))).mono ?_
          rintro e w10 ⟨r2, L2, fs2, rfl, ho2, hfs2, hps2, hf10⟩
          obtain ⟨aoL2, cL2, rfl⟩ := own_slice ho2.own
          have HO2 : Hid (OwnPs w10 w9.heap.size (.slice aoL2 L2.length cL2) L2) := ho2
          have HF910 : Hid (Fr (fun _ => False) w9 w10) := hf10
          have HFS2 : Hid (Firsts (Bk W2 H2 P2) fs2) := hfs2
          have HPS2 : Hid (Pcs (Bk W2 H2 P2) fs2 (L2.map (·.1))) := hps2
          clear ho2 hf10 hfs2 hps2 c0 c1 c2 c3 c4 c5
          obtain ⟨e0, e1, e2⟩ := HCX.out (fun _ => False) w10 (HF89.out.trans HF910.out (fun _ _ h => h)) (fun h => h)
          go_wp2_with fail
          refine (cof_ok W2 T _ (twoP W1 H1 W2 H2 P1 P2) _ (HBC.out _ (HF89.out.trans HF910.out (fun _ _ h => h)))).mono ?_
          rintro e w11 ⟨r3, L3, fs3, rfl, ho3, hfs3, hps3, hf11⟩
          obtain ⟨aoL3, cL3, rfl⟩ := own_slice ho3.own
          have HO3 : Hid (OwnPs w11 w10.heap.size (.slice aoL3 L3.length cL3) L3) := ho3
          have HTW : Two (Bk W2 T (twoP W1 H1 W2 H2 P1 P2)) (Bk W1 H1 P1) (Bk W2 H2 P2) (H1 + 1) := by
            have := twoP_two W1 H1 W2 H2 W2 P1 P2 (by omega) (by omega)
            rwa [← HT.out] at this
          have hPM : Pcs (Bk W2 T (twoP W1 H1 W2 H2 P1 P2)) (fs1 ++ fs2.map (dn (H1 + 1))) ((L1 ++ L2.map (mvP (H1 + 1))).map (·.1)) := by
            rw [List.map_append, map_mv]; exact HTW.pcs HPS1.out HPS2.out
          have HPM : Hid (Pcs (Bk W2 T (twoP W1 H1 W2 H2 P1 P2)) (fs1 ++ fs2.map (dn (H1 + 1))) ((L1 ++ L2.map (mvP (H1 + 1))).map (·.1))) := hPM
          have HP3 : Hid (Pcs (Bk W2 T (twoP W1 H1 W2 H2 P1 P2)) fs3 (L3.map (·.1))) := hps3
          have hfe : fs3 = fs1 ++ fs2.map (dn (H1 + 1)) := hfs3.uniq (HTW.firsts HFS1.out HFS2.out)
          have hal := alike_of (L := L3) (M := L1 ++ L2.map (mvP (H1 + 1))) (Pcs.uniq (by rw [← hfe]; exact hps3) hPM)
          have HAL : Hid (∀ (i : Nat) (h1 : i < L3.length) (h2 : i < (L1 ++ L2.map (mvP (H1 + 1))).length), (rpOf L3[i]).X = (rpOf (L1 ++ L2.map (mvP (H1 + 1)))[i]).X ∧ (rpOf L3[i]).Y = (rpOf (L1 ++ L2.map (mvP (H1 + 1)))[i]).Y ∧ (rpOf L3[i]).x = (rpOf (L1 ++ L2.map (mvP (H1 + 1)))[i]).x ∧ (rpOf L3[i]).y = (rpOf (L1 ++ L2.map (mvP (H1 + 1)))[i]).y ∧ (rpOf L3[i]).l = (rpOf (L1 ++ L2.map (mvP (H1 + 1)))[i]).l) := hal.2
          have hll : L3.length = L1.length + L2.length := by have := hal.1; rwa [List.length_append, List.length_map] at this
          have hb3 := of_len ho3.own
          have hb1 : L1.length ≤ 1048576 := by have := HPS1.out.length; rw [List.length_map] at this; have := firsts_len HFS1.out; have := (HB1.out w (Fr.refl _ _)).h3; omega
          have hb2 : L2.length ≤ 1048576 := by have := HPS2.out.length; rw [List.length_map] at this; have := firsts_len HFS2.out; have := (HB2.out w (Fr.refl _ _)).h3; omega
          have HF1011 : Hid (Fr (fun _ => False) w10 w11) := hf11
          have HF911 : Hid (Fr (fun _ => False) w9 w11) := HF910.out.trans hf11 (fun _ _ h => h)
          have HF811 : Hid (Fr (fun _ => False) w8 w11) := HF89.out.trans HF911.out (fun _ _ h => h)
          have HF011 : Hid (Fr (fun _ => False) w0 w11) := HF08.out.trans HF811.out (fun _ _ h => h)
          have HO1b : Hid (OwnPs w11 w8.heap.size (.slice aoL1 L1.length cL1) L1) := HO1.out.kept HF911.out (fun _ _ h => h)
          have HO2b : Hid (OwnPs w11 w9.heap.size (.slice aoL2 L2.length cL2) L2) := HO2.out.kept hf11 (fun _ _ h => h)
          have HLT1 : Hid (∀ k, Value.ownBlock (.slice aoL1 L1.length cL1) = some k → w8.heap.size ≤ k ∧ k < w9.heap.size) := fun k hk => HO1.out.own.lt k hk
          have g20 : IntKind.i64.wrap ((L1.length : Int) + (L2.length : Int)) = ((L1.length + L2.length : Nat) : Int) := by rw [IntKind.wrap_i64]; omega
          rw [hll]
          have HLL : Hid (L3.length = L1.length + L2.length) := hll
          clear ho3 hf11 hfs3 hps3 hPM hal hfe HTW hll e0 e1 e2
          obtain ⟨LB, hLB⟩ : ∃ LB, LB = Value.ownBlock (.slice aoL1 L1.length cL1) := ⟨_, rfl⟩
          have HLE : Hid (LB = Value.ownBlock (.slice aoL1 L1.length cL1)) := hLB
          rw [← hLB] at HLT1
          clear hLB
          go_wp2_with fail
          go_loopg [5, 11] L2.length (fun q lv ii wr => ∃ I : Nat, I + q = L2.length ∧ ii = .int .i64 I ∧ wr.ownsRow 0 34 5 lv (L1.length + I) (cellsPs (L1 ++ (L2.take I).map (mvP (H1 + 1)))) ∧ (∀ k, lv.ownBlock = some k → LB = some k ∨ w11.heap.size ≤ k) ∧ Fr (fun k => LB = some k) w11 wr)
          case atStart => exact ⟨0, by omega, rfl, by simpa using ownsRow_base (b' := 0) HO1b.out.own (fun _ _ => Nat.zero_le _), fun k hk => Or.inl (HLE.out.trans hk), Fr.refl _ _⟩
          case round =>
            obtain ⟨I, hIq, rfl, hrow, hblk, hfr⟩ := hrel
            have HRW : Hid (wr.ownsRow 0 34 5 u5 (L1.length + I) (cellsPs (L1 ++ (L2.take I).map (mvP (H1 + 1))))) := hrow
            have HBK : Hid (∀ k, u5.ownBlock = some k → LB = some k ∨ w11.heap.size ≤ k) := hblk
            have HFr : Hid (Fr (fun k => LB = some k) w11 wr) := hfr
            clear hrow hblk hfr
            have HO2r : Hid (OwnPs wr w9.heap.size (.slice aoL2 L2.length cL2) L2) := HO2b.out.kept HFr.out (fun k hk e => by have := HLT1.out k e; omega)
            have HNP : Hid (¬ LB = some w.heap.size) := fun e => by
              have := (HLT1.out _ e).1
              have := HF08.out.size
              have := HWP.out
              omega
            by_cases hIL : I < L2.length
            · have dI : decide (I < L2.length) = true := decide_eq_true hIL
              obtain ⟨gM, kM, eM, _⟩ := row_form HO2r.out.own (by omega)
              simp only [Value.slice.injEq] at eM
              obtain ⟨rfl, _, rfl⟩ := eM
              obtain ⟨a0, a1, a2, a3, a4⟩ := cellsPs_at L2 I hIL
              rw [← HO2r.out.own.cellAt _ (by omega)] at a0 a1 a2 a3 a4
              have hin := pcs_in HPS2.out (p := L2[I].1) (List.mem_map.2 ⟨_, List.getElem_mem hIL, rfl⟩)
              have HTK : Hid (L1 ++ (L2.take (I + 1)).map (mvP (H1 + 1)) = (L1 ++ (L2.take I).map (mvP (H1 + 1))) ++ [mvP (H1 + 1) L2[I]]) := by
                show _ = _
                rw [List.take_add_one, List.getElem?_eq_getElem hIL, List.map_append, List.append_assoc]; rfl
              have HCE : Hid (cellsPs [mvP (H1 + 1) L2[I]] = [.int .i64 (L2[I].1.X : Nat), .int .i64 (L2[I].1.Y + (H1 + 1) : Nat), .int .i64 (L2[I].1.W : Nat), .int .i64 (L2[I].1.H : Nat), .slice (some ⟨L2[I].2.1, 0, none⟩) (L2[I].1.H * stride L2[I].1.W) L2[I].2.2]) := rfl
              generalize mvP (H1 + 1) L2[I] = mq at *
              generalize L2[I].1.X = pX at *
              generalize L2[I].1.Y = pY at *
              generalize L2[I].1.W = pW at *
              generalize L2[I].1.H = pH at *
              generalize L2[I].2.1 = pg at *
              generalize L2[I].2.2 = pc at *
              generalize pH * stride pW = pn at *
              have g21 : IntKind.i64.wrap ((pY : Int) + (H1 : Int)) = ((pY + H1 : Nat) : Int) := by rw [IntKind.wrap_i64]; omega
              have g22 : IntKind.i64.wrap (((pY + H1 : Nat) : Int) + 1) = ((pY + (H1 + 1) : Nat) : Int) := by rw [IntKind.wrap_i64]; omega
              have g23 : IntKind.i64.wrap ((pY : Int) + (H1 : Int) + 1) = ((pY + (H1 + 1) : Nat) : Int) := by rw [IntKind.wrap_i64]; omega
              have g24 : (pY : Int) + (H1 : Int) + 1 = ((pY + (H1 + 1) : Nat) : Int) := by omega
              obtain ⟨c0, c1, c2, c3, c4, c5⟩ := HBX.out _ (wr.alloc (.cells #[.int .i64 pX, .int .i64 pY, .int .i64 pW, .int .i64 pH, .slice (some ⟨pg, 0, none⟩) pn pc] 34)) (((HF011.out.mono (T := fun k => LB = some k) (fun _ _ h => h.elim)).trans HFr.out (fun _ _ h => h)).alloc _) HNP.out
              go_wp2_with (first | (at_builtin; refine wpList_append_row _ rfl _ _ 26 rfl 34 i0 (.agg #[.int .i64 0, .int .i64 0, .int .i64 0, .int .i64 0, .slice none 0 0]) 5 56 Try.underlying26 hi hz0 hz1 hz2 rfl (by decide) _ _ _ rfl ((HRW.out.alloc _).alloc _) ⟨wr.heap.size + 1, 0, none⟩ 1 1 _ rfl rfl (cell_five_new2 _ _ _ _ _ _ _ _) ?_ ?_ ?_ (by decide) ?_))
              · intro u hu; simp at hu; rcases hu with rfl | rfl | rfl | rfl | rfl <;> rfl
              · unfold maxLen; omega
              · omega
              · intro g' cap' w12 hown12 hgrow12 hloc12 _ _
                have HR12 : Hid (w12.ownsRow 0 34 5 (.slice (some ⟨g', 0, none⟩) (L1.length + I + 1) cap') (L1.length + (I + 1)) (cellsPs (L1 ++ (L2.take (I + 1)).map (mvP (H1 + 1))))) := by
                  rw [HTK.out, cellsPs_append, HCE.out]
                  rw [← List.map_take] at hown12
                  exact hown12
                have HB12 : Hid (∀ k, Value.ownBlock (.slice (some ⟨g', 0, none⟩) (L1.length + I + 1) cap') = some k → LB = some k ∨ w11.heap.size ≤ k) := fun k hk => by
                  simp [Value.ownBlock] at hk
                  subst hk
                  rcases hloc12 with e | e
                  · exact HBK.out _ e
                  · right
                    have := HFr.out.size
                    omega
                have HF12 : Hid (Fr (fun k => LB = some k) w11 w12) := ((HFr.out.alloc _).alloc _).grown hgrow12 (fun k hk hlt => by
                  rcases HBK.out k hk with e | e
                  · exact e
                  · omega)
                clear hown12 hgrow12 hloc12 a0 a1 a2 a3 a4 c0 c1 c2 c3 c4 c5
                go_wp2_with fail
                go_roundg (L2.length - (I + 1))
                case measure => omega
                case rel => exact ⟨I + 1, by omega, rfl, HR12.out, HB12.out, HF12.out⟩
            · have dI : decide (I < L2.length) = false := decide_eq_false hIL
              have HO3r : Hid (OwnPs wr w10.heap.size (.slice aoL3 L3.length cL3) L3) := HO3.out.kept HFr.out (fun k hk e => by have := HLT1.out k e; have := HF910.out.size; omega)
              have HMR : Hid (OwnPs wr 0 u5 (L1 ++ L2.map (mvP (H1 + 1)))) := by
                refine ⟨?_, fun q hq => ?_, ?_⟩
                · have := HRW.out
                  rw [show I = L2.length by omega, List.take_length] at this
                  rw [List.length_append, List.length_map]
                  exact this
                · rcases List.mem_append.1 hq with h | h
                  · have hr := (HO1b.out.at_ q h).1
                    exact ⟨hr.kept HFr.out (fun e => own_ne HO1b.out.own hr (by decide) (by rw [← HLE.out]; exact e)), Nat.zero_le _⟩
                  · obtain ⟨q', hq', rfl⟩ := List.mem_map.1 h
                    exact ⟨(HO2r.out.at_ q' hq').1, Nat.zero_le _⟩
                · rw [List.pairwise_append]
                  refine ⟨HO1b.out.sep, ?_, fun a ha b hb => ?_⟩
                  · rw [List.pairwise_map]; exact HO2b.out.sep
                  · obtain ⟨q', hq', rfl⟩ := List.mem_map.1 hb
                    have h1 := (HO1.out.at_ a ha).1.lt
                    have h2 := (HO2.out.at_ q' hq').2
                    show a.2.1 ≠ q'.2.1
                    omega
              have HEP : Hid (Calls Try.prog 13 #[.slice aoL3 (L1.length + L2.length) cL3, u5] wr fun e w' => e = .returned (.bool true) ∧ Fr (fun _ => False) wr w') := by
                have s3 := HO3r.out.seen HP3.out HSZ.out.2.2 HSZ.out.1 HSZ.out.2.1
                have sM := HMR.out.seen HPM.out HSZ.out.2.2 HSZ.out.1 HSZ.out.2.1
                rw [HLL.out] at s3
                refine eqPieces_same _ _ (L3.map rpOf) ((L1 ++ L2.map (mvP (H1 + 1))).map rpOf) wr s3 sM ?_ (fun i h1 h2 => ?_)
                · rw [List.length_map, List.length_map, List.length_append, List.length_map]; exact HLL.out
                · rw [List.length_map] at h1 h2
                  rw [List.getElem_map, List.getElem_map]
                  exact HAL.out i h1 h2
              go_wp2_with fail
              refine HEP.out.mono ?_
              rintro e w13 ⟨rfl, hf13⟩
              have HF13 : Hid (Fr (fun k => LB = some k) w11 w13) := HFr.out.trans hf13 (fun _ _ h => h.elim)
              clear hf13
              go_wp2_with fail
              refine (wakes_any _).mono ?_
              rintro e w14 ⟨rfl, hf14⟩
              have HF14 : Hid (Fr (fun _ => False) w w14) := HA.out.trans ((HF08.out.trans HF811.out (fun _ _ h => h)).trans (HF13.out.trans hf14 (fun _ _ h => h.elim)) (fun k hk e => by have := (HLT1.out k e).1; have := HF08.out.size; omega)) (fun _ _ h => h)
              clear hf14
              go_wp2_with fail
              go_ret
              exact ⟨rfl, HF14.out⟩
    · have dg : decide (W1 < W2) = false := decide_eq_false hgt
      obtain ⟨T, hT⟩ : ∃ T, T = H1 + 1 + H2 := ⟨_, rfl⟩
      have HT : Hid (T = H1 + 1 + H2) := hT
      have t1 : IntKind.i64.wrap ((H1 : Int) + 1) = ((H1 + 1 : Nat) : Int) := by rw [IntKind.wrap_i64]; omega
      have t2 : IntKind.i64.wrap (((H1 + 1 : Nat) : Int) + (H2 : Int)) = (T : Int) := by rw [IntKind.wrap_i64]; omega
      have t3 : (H1 : Int) + 1 + (H2 : Int) = (T : Int) := by omega
      have hTb : T ≤ 2097153 := by omega
      clear hT
      go_wp2_with fail
      refine (zSize_any W1 T w4 (by omega) (by omega)).mono ?_
      rintro e w5 ⟨rfl, hf5⟩
      have HF5 : Hid (Fr (fun _ => False) w0 w5) := by rw [hf5]; exact HF4.out
      clear hf5 c0 c1 c2 c3 c4 c5
      obtain ⟨c0, c1, c2, c3, c4, c5⟩ := HBX.out _ _ HF5.out (fun h => h)
      cases hsz : sizeOK W1 T with
      | false =>
        go_wp2_with fail
        refine (wakes_any _).mono ?_
        rintro e w30 ⟨rfl, hf30⟩
        have HF30 : Hid (Fr (fun _ => False) w w30) := (HA.out.trans HF5.out (fun _ _ h => h)).trans hf30 (fun _ _ h => h)
        clear hf30
        go_wp2_with fail
        go_ret
        exact ⟨rfl, HF30.out⟩
      | true =>
        have HSZ : Hid (1 ≤ W1 ∧ 1 ≤ T ∧ W1 * T ≤ 1048576) := by
          unfold sizeOK at hsz
          have := of_decide_eq_true hsz
          rw [← Int.natCast_mul] at this
          show _ ∧ _ ∧ _
          omega
        have t4 : IntKind.i64.wrap ((W1 : Int) + 64) = ((W1 + 64 : Nat) : Int) := by rw [IntKind.wrap_i64]; omega
        have hmb : (W1 + 64) * T ≤ 1048640 * 2097153 := Nat.mul_le_mul (by omega) hTb
        have t5 : IntKind.i64.wrap (((W1 + 64 : Nat) : Int) * (T : Int)) = (((W1 + 64) * T : Nat) : Int) := by rw [IntKind.wrap_i64, ← Int.natCast_mul]; omega
        have t6 : ((W1 : Int) + 64) * (T : Int) = (((W1 + 64) * T : Nat) : Int) := by rw [Int.natCast_mul]; rfl
        generalize (W1 + 64) * T = MM at *
        by_cases hbig : 200000 < MM
        · have d1 : decide ((200000 : Int) < (MM : Int)) = true := decide_eq_true (by omega)
          have d2 : decide ((MM : Int) > 200000) = true := decide_eq_true (by omega)
          go_wp2_with fail
          refine (wakes_any _).mono ?_
          rintro e w30 ⟨rfl, hf30⟩
          have HF30 : Hid (Fr (fun _ => False) w w30) := (HA.out.trans HF5.out (fun _ _ h => h)).trans hf30 (fun _ _ h => h)
          clear hf30
          go_wp2_with fail
          go_ret
          exact ⟨rfl, HF30.out⟩
        · have d1 : decide ((200000 : Int) < (MM : Int)) = false := decide_eq_false (by omega)
          have d2 : decide ((MM : Int) > 200000) = false := decide_eq_false (by omega)
          go_wp2_with fail
          refine (zwhite_any W1 T w5 HSZ.out.1 HSZ.out.2.1 HSZ.out.2.2).mono ?_
          rintro e w6 ⟨g, rfl, hr6, hf6, hg6⟩
          have HR6 : Hid (RowAt w6 g (T * stride W1) W1 T (fun _ _ => false)) := hr6
          have HF6 : Hid (Fr (fun _ => False) w0 w6) := HF5.out.trans hf6 (fun _ _ h => h)
          have hg0 : w0.heap.size ≤ g := by have := HF5.out.size; omega
          have hg6' : g < w6.heap.size := hr6.lt
          clear hr6 hf6 hg6 c0 c1 c2 c3 c4 c5
          generalize hcg : T * stride W1 = cg at *
          have HCG : Hid (T * stride W1 = cg) := hcg
          clear hcg
          have HRA : Hid (RowAt (w6.alloc (.cells #[.int .i64 W1, .int .i64 T, .slice (some ⟨g, 0, none⟩) cg cg] 25)) g cg W1 T (fun _ _ => false)) := HR6.out.kept ((Fr.refl (fun _ => False) _).alloc _) (fun h => h)
          have HFA : Hid (Fr (fun _ => False) w0 (w6.alloc (.cells #[.int .i64 W1, .int .i64 T, .slice (some ⟨g, 0, none⟩) cg cg] 25))) := HF6.out.alloc _
          have HCB : Hid (∀ S w', Fr S (w6.alloc (.cells #[.int .i64 W1, .int .i64 T, .slice (some ⟨g, 0, none⟩) cg cg] 25)) w' → ¬ S w6.heap.size → w'.cell? ⟨w6.heap.size, 0, none⟩ = some (.int .i64 W1) ∧ w'.cell? ⟨w6.heap.size, 1, none⟩ = some (.int .i64 T) ∧ w'.cell? ⟨w6.heap.size, 2, none⟩ = some (.slice (some ⟨g, 0, none⟩) cg cg)) := fun S w' f hS => by
            obtain ⟨z0, z1, z2, _⟩ := cell_of_three ((f.block w6.heap.size (by simp) hS).trans (heap_alloc_new w6 _))
            exact ⟨z0, z1, z2⟩
          obtain ⟨c0, c1, c2, c3, c4, c5⟩ := HBX.out _ _ HFA.out (fun h => h)
          obtain ⟨e0, e1, e2⟩ := HCB.out (fun _ => False) _ (Fr.refl _ _) (fun h => h)
          generalize hwA : w6.alloc (.cells #[.int .i64 W1, .int .i64 T, .slice (some ⟨g, 0, none⟩) cg cg] 25) = wA at *
          have HWA : Hid (w6.heap.size < wA.heap.size) := by show _ < _; rw [← hwA]; simp
          have HL1 : Hid (Calls Try.prog 31 #[.agg #[.int .i64 W1, .int .i64 T, .slice (some ⟨g, 0, none⟩) cg cg], .int .i64 0, .int .i64 0, .int .i64 4, .agg #[.int .i64 W1, .int .i64 H1, .slice ao1 n1 cap1]] wA fun e w' => e = .returned (.tuple #[]) ∧ RowAt w' g cg W1 T (laidTo 0 0 W1 H1 0 P1 (fun _ _ => false)) ∧ Fr (fun k => k = g) wA w') := by
            have := lay_any W1 T g cg (fun _ _ => false) 0 0 W1 H1 (.slice ao1 n1 cap1) P1 wA HRA.out (fun w' f => (HB1.out _ (HA.out.trans (HFA.out.trans f (fun k hk e => by omega)) (fun _ _ h => h)))) HSZ.out.1 HSZ.out.2.1 HSZ.out.2.2 (by omega) (by have := HT.out; omega)
            rw [HCG.out] at this
            exact this
          go_wp2_with fail
          (try rw [hwA])
          clear hwA
          refine HL1.out.mono ?_
          rintro e w7 ⟨rfl, hr7, hf7⟩
          have HR7 : Hid (RowAt w7 g cg W1 T (laidTo 0 0 W1 H1 0 P1 (fun _ _ => false))) := hr7
          have HF7 : Hid (Fr (fun k => k = g) wA w7) := hf7
          have HF07 : Hid (Fr (fun _ => False) w0 w7) := HFA.out.trans hf7 (fun k hk e => by omega)
          clear hr7 hf7 c0 c1 c2 c3 c4 c5 e0 e1 e2 HL1
          obtain ⟨c0, c1, c2, c3, c4, c5⟩ := HBX.out _ _ HF07.out (fun h => h)
          obtain ⟨e0, e1, e2⟩ := HCB.out _ _ HF7.out (fun e => by omega)
          have HL2 : Hid (Calls Try.prog 31 #[.agg #[.int .i64 W1, .int .i64 T, .slice (some ⟨g, 0, none⟩) cg cg], .int .i64 0, .int .i64 (H1 + 1 : Nat), .int .i64 4, .agg #[.int .i64 W2, .int .i64 H2, .slice ao2 n2 cap2]] w7 fun e w' => e = .returned (.tuple #[]) ∧ RowAt w' g cg W1 T (twoP W1 H1 W2 H2 P1 P2) ∧ Fr (fun k => k = g) w7 w') := by
            have := lay_any W1 T g cg _ 0 (H1 + 1) W2 H2 (.slice ao2 n2 cap2) P2 w7 HR7.out (fun w' f => (HB2.out _ (HA.out.trans (HF07.out.trans f (fun k hk e => by omega)) (fun _ _ h => h)))) HSZ.out.1 HSZ.out.2.1 HSZ.out.2.2 (by omega) (by have := HT.out; omega)
            rw [HCG.out] at this
            exact this
          go_wp2_with fail
          refine HL2.out.mono ?_
          rintro e w8 ⟨rfl, hr8, hf8⟩
          have HR8 : Hid (RowAt w8 g cg W1 T (twoP W1 H1 W2 H2 P1 P2)) := hr8
          have HF8 : Hid (Fr (fun k => k = g) wA w8) := HF7.out.trans hf8 (fun _ _ h => h)
          have HF08 : Hid (Fr (fun _ => False) w0 w8) := HF07.out.trans hf8 (fun k hk e => by omega)
          clear hr8 hf8 c0 c1 c2 c3 c4 c5 e0 e1 e2 HL2 HR7 HF7 HF07
          obtain ⟨c0, c1, c2, c3, c4, c5⟩ := HBX.out _ _ HF08.out (fun h => h)
          have HCX : Hid (∀ S w', Fr S w8 w' → ¬ S w6.heap.size → w'.cell? ⟨w6.heap.size, 0, none⟩ = some (.int .i64 W1) ∧ w'.cell? ⟨w6.heap.size, 1, none⟩ = some (.int .i64 T) ∧ w'.cell? ⟨w6.heap.size, 2, none⟩ = some (.slice (some ⟨g, 0, none⟩) cg cg)) := fun S w' f hS => by
            have f2 : Fr (fun k => k = g ∨ S k) wA w' := (HF8.out.mono (fun k _ h => Or.inl h)).trans f (fun k _ h => Or.inr h)
            exact HCB.out _ w' f2 (fun h => h.elim (fun e => by omega) hS)
          have HBC : Hid (∀ w', Fr (fun _ => False) w8 w' → Bm w' (.slice (some ⟨g, 0, none⟩) cg cg) W1 T (twoP W1 H1 W2 H2 P1 P2)) := fun w' f => by
            have hr := HR8.out.kept f (fun h => h)
            have hs := hr.seen (size_facts HSZ.out.1 HSZ.out.2.1 HSZ.out.2.2).2.2
            rw [HCG.out] at hs
            refine ⟨hs, fun ao n c e => ?_, HSZ.out.1, HSZ.out.2.1, HSZ.out.2.2⟩
            simp only [Value.slice.injEq] at e
            obtain ⟨_, rfl, rfl⟩ := e
            have := of_slice hr
            rw [HCG.out] at this
            exact this
          go_wp2_with fail
          refine (cof_ok W1 H1 _ P1 _ (HB1.out _ (HA.out.trans HF08.out (fun _ _ h => h)))).mono ?_
          rintro e w9 ⟨r1, L1, fs1, rfl, ho1, hfs1, hps1, hf9⟩
          obtain ⟨aoL1, cL1, rfl⟩ := own_slice ho1.own
          have HO1 : Hid (OwnPs w9 w8.heap.size (.slice aoL1 L1.length cL1) L1) := ho1
          have HF89 : Hid (Fr (fun _ => False) w8 w9) := hf9
          have HFS1 : Hid (Firsts (Bk W1 H1 P1) fs1) := hfs1
          have HPS1 : Hid (Pcs (Bk W1 H1 P1) fs1 (L1.map (·.1))) := hps1
          clear ho1 hf9 hfs1 hps1 c0 c1 c2 c3 c4 c5
          have HF09 : Hid (Fr (fun _ => False) w0 w9) := HF08.out.trans HF89.out (fun _ _ h => h)
          obtain ⟨c0, c1, c2, c3, c4, c5⟩ := HBX.out _ _ HF09.out (fun h => h)
          go_wp2_with fail
          refine (cof_ok W2 H2 _ P2 _ (HB2.out _ (HA.out.trans HF09.out (fun _ _ h => h)))).mono ?_
          rintro e w10 ⟨r2, L2, fs2, rfl, ho2, hfs2, hps2, hf10⟩
          obtain ⟨aoL2, cL2, rfl⟩ := own_slice ho2.own
          have HO2 : Hid (OwnPs w10 w9.heap.size (.slice aoL2 L2.length cL2) L2) := ho2
          have HF910 : Hid (Fr (fun _ => False) w9 w10) := hf10
          have HFS2 : Hid (Firsts (Bk W2 H2 P2) fs2) := hfs2
          have HPS2 : Hid (Pcs (Bk W2 H2 P2) fs2 (L2.map (·.1))) := hps2
          clear ho2 hf10 hfs2 hps2 c0 c1 c2 c3 c4 c5
          obtain ⟨e0, e1, e2⟩ := HCX.out (fun _ => False) w10 (HF89.out.trans HF910.out (fun _ _ h => h)) (fun h => h)
          go_wp2_with fail
          refine (cof_ok W1 T _ (twoP W1 H1 W2 H2 P1 P2) _ (HBC.out _ (HF89.out.trans HF910.out (fun _ _ h => h)))).mono ?_
          rintro e w11 ⟨r3, L3, fs3, rfl, ho3, hfs3, hps3, hf11⟩
          obtain ⟨aoL3, cL3, rfl⟩ := own_slice ho3.own
          have HO3 : Hid (OwnPs w11 w10.heap.size (.slice aoL3 L3.length cL3) L3) := ho3
          have HTW : Two (Bk W1 T (twoP W1 H1 W2 H2 P1 P2)) (Bk W1 H1 P1) (Bk W2 H2 P2) (H1 + 1) := by
            have := twoP_two W1 H1 W2 H2 W1 P1 P2 (by omega) (by omega)
            rwa [← HT.out] at this
          have hPM : Pcs (Bk W1 T (twoP W1 H1 W2 H2 P1 P2)) (fs1 ++ fs2.map (dn (H1 + 1))) ((L1 ++ L2.map (mvP (H1 + 1))).map (·.1)) := by
            rw [List.map_append, map_mv]; exact HTW.pcs HPS1.out HPS2.out
          have HPM : Hid (Pcs (Bk W1 T (twoP W1 H1 W2 H2 P1 P2)) (fs1 ++ fs2.map (dn (H1 + 1))) ((L1 ++ L2.map (mvP (H1 + 1))).map (·.1))) := hPM
          have HP3 : Hid (Pcs (Bk W1 T (twoP W1 H1 W2 H2 P1 P2)) fs3 (L3.map (·.1))) := hps3
          have hfe : fs3 = fs1 ++ fs2.map (dn (H1 + 1)) := hfs3.uniq (HTW.firsts HFS1.out HFS2.out)
          have hal := alike_of (L := L3) (M := L1 ++ L2.map (mvP (H1 + 1))) (Pcs.uniq (by rw [← hfe]; exact hps3) hPM)
          have HAL : Hid (∀ (i : Nat) (h1 : i < L3.length) (h2 : i < (L1 ++ L2.map (mvP (H1 + 1))).length), (rpOf L3[i]).X = (rpOf (L1 ++ L2.map (mvP (H1 + 1)))[i]).X ∧ (rpOf L3[i]).Y = (rpOf (L1 ++ L2.map (mvP (H1 + 1)))[i]).Y ∧ (rpOf L3[i]).x = (rpOf (L1 ++ L2.map (mvP (H1 + 1)))[i]).x ∧ (rpOf L3[i]).y = (rpOf (L1 ++ L2.map (mvP (H1 + 1)))[i]).y ∧ (rpOf L3[i]).l = (rpOf (L1 ++ L2.map (mvP (H1 + 1)))[i]).l) := hal.2
          have hll : L3.length = L1.length + L2.length := by have := hal.1; rwa [List.length_append, List.length_map] at this
          have hb3 := of_len ho3.own
          have hb1 : L1.length ≤ 1048576 := by have := HPS1.out.length; rw [List.length_map] at this; have := firsts_len HFS1.out; have := (HB1.out w (Fr.refl _ _)).h3; omega
          have hb2 : L2.length ≤ 1048576 := by have := HPS2.out.length; rw [List.length_map] at this; have := firsts_len HFS2.out; have := (HB2.out w (Fr.refl _ _)).h3; omega
          have HF1011 : Hid (Fr (fun _ => False) w10 w11) := hf11
          have HF911 : Hid (Fr (fun _ => False) w9 w11) := HF910.out.trans hf11 (fun _ _ h => h)
          have HF811 : Hid (Fr (fun _ => False) w8 w11) := HF89.out.trans HF911.out (fun _ _ h => h)
          have HF011 : Hid (Fr (fun _ => False) w0 w11) := HF08.out.trans HF811.out (fun _ _ h => h)
          have HO1b : Hid (OwnPs w11 w8.heap.size (.slice aoL1 L1.length cL1) L1) := HO1.out.kept HF911.out (fun _ _ h => h)
          have HO2b : Hid (OwnPs w11 w9.heap.size (.slice aoL2 L2.length cL2) L2) := HO2.out.kept hf11 (fun _ _ h => h)
          have HLT1 : Hid (∀ k, Value.ownBlock (.slice aoL1 L1.length cL1) = some k → w8.heap.size ≤ k ∧ k < w9.heap.size) := fun k hk => HO1.out.own.lt k hk
          have g20 : IntKind.i64.wrap ((L1.length : Int) + (L2.length : Int)) = ((L1.length + L2.length : Nat) : Int) := by rw [IntKind.wrap_i64]; omega
          rw [hll]
          have HLL : Hid (L3.length = L1.length + L2.length) := hll
          clear ho3 hf11 hfs3 hps3 hPM hal hfe HTW hll e0 e1 e2
          obtain ⟨LB, hLB⟩ : ∃ LB, LB = Value.ownBlock (.slice aoL1 L1.length cL1) := ⟨_, rfl⟩
          have HLE : Hid (LB = Value.ownBlock (.slice aoL1 L1.length cL1)) := hLB
          rw [← hLB] at HLT1
          clear hLB
          go_wp2_with fail
          go_loopg [5, 11] L2.length (fun q lv ii wr => ∃ I : Nat, I + q = L2.length ∧ ii = .int .i64 I ∧ wr.ownsRow 0 34 5 lv (L1.length + I) (cellsPs (L1 ++ (L2.take I).map (mvP (H1 + 1)))) ∧ (∀ k, lv.ownBlock = some k → LB = some k ∨ w11.heap.size ≤ k) ∧ Fr (fun k => LB = some k) w11 wr)
          case atStart => exact ⟨0, by omega, rfl, by simpa using ownsRow_base (b' := 0) HO1b.out.own (fun _ _ => Nat.zero_le _), fun k hk => Or.inl (HLE.out.trans hk), Fr.refl _ _⟩
          case round =>
            obtain ⟨I, hIq, rfl, hrow, hblk, hfr⟩ := hrel
            have HRW : Hid (wr.ownsRow 0 34 5 u5 (L1.length + I) (cellsPs (L1 ++ (L2.take I).map (mvP (H1 + 1))))) := hrow
            have HBK : Hid (∀ k, u5.ownBlock = some k → LB = some k ∨ w11.heap.size ≤ k) := hblk
            have HFr : Hid (Fr (fun k => LB = some k) w11 wr) := hfr
            clear hrow hblk hfr
            have HO2r : Hid (OwnPs wr w9.heap.size (.slice aoL2 L2.length cL2) L2) := HO2b.out.kept HFr.out (fun k hk e => by have := HLT1.out k e; omega)
            have HNP : Hid (¬ LB = some w.heap.size) := fun e => by
              have := (HLT1.out _ e).1
              have := HF08.out.size
              have := HWP.out
              omega
            by_cases hIL : I < L2.length
            · have dI : decide (I < L2.length) = true := decide_eq_true hIL
              obtain ⟨gM, kM, eM, _⟩ := row_form HO2r.out.own (by omega)
              simp only [Value.slice.injEq] at eM
              obtain ⟨rfl, _, rfl⟩ := eM
              obtain ⟨a0, a1, a2, a3, a4⟩ := cellsPs_at L2 I hIL
              rw [← HO2r.out.own.cellAt _ (by omega)] at a0 a1 a2 a3 a4
              have hin := pcs_in HPS2.out (p := L2[I].1) (List.mem_map.2 ⟨_, List.getElem_mem hIL, rfl⟩)
              have HTK : Hid (L1 ++ (L2.take (I + 1)).map (mvP (H1 + 1)) = (L1 ++ (L2.take I).map (mvP (H1 + 1))) ++ [mvP (H1 + 1) L2[I]]) := by
                show _ = _
                rw [List.take_add_one, List.getElem?_eq_getElem hIL, List.map_append, List.append_assoc]; rfl
              have HCE : Hid (cellsPs [mvP (H1 + 1) L2[I]] = [.int .i64 (L2[I].1.X : Nat), .int .i64 (L2[I].1.Y + (H1 + 1) : Nat), .int .i64 (L2[I].1.W : Nat), .int .i64 (L2[I].1.H : Nat), .slice (some ⟨L2[I].2.1, 0, none⟩) (L2[I].1.H * stride L2[I].1.W) L2[I].2.2]) := rfl
              generalize mvP (H1 + 1) L2[I] = mq at *
              generalize L2[I].1.X = pX at *
              generalize L2[I].1.Y = pY at *
              generalize L2[I].1.W = pW at *
              generalize L2[I].1.H = pH at *
              generalize L2[I].2.1 = pg at *
              generalize L2[I].2.2 = pc at *
              generalize pH * stride pW = pn at *
              have g21 : IntKind.i64.wrap ((pY : Int) + (H1 : Int)) = ((pY + H1 : Nat) : Int) := by rw [IntKind.wrap_i64]; omega
              have g22 : IntKind.i64.wrap (((pY + H1 : Nat) : Int) + 1) = ((pY + (H1 + 1) : Nat) : Int) := by rw [IntKind.wrap_i64]; omega
              have g23 : IntKind.i64.wrap ((pY : Int) + (H1 : Int) + 1) = ((pY + (H1 + 1) : Nat) : Int) := by rw [IntKind.wrap_i64]; omega
              have g24 : (pY : Int) + (H1 : Int) + 1 = ((pY + (H1 + 1) : Nat) : Int) := by omega
              obtain ⟨c0, c1, c2, c3, c4, c5⟩ := HBX.out _ (wr.alloc (.cells #[.int .i64 pX, .int .i64 pY, .int .i64 pW, .int .i64 pH, .slice (some ⟨pg, 0, none⟩) pn pc] 34)) (((HF011.out.mono (T := fun k => LB = some k) (fun _ _ h => h.elim)).trans HFr.out (fun _ _ h => h)).alloc _) HNP.out
              go_wp2_with (first | (at_builtin; refine wpList_append_row _ rfl _ _ 26 rfl 34 i0 (.agg #[.int .i64 0, .int .i64 0, .int .i64 0, .int .i64 0, .slice none 0 0]) 5 56 Try.underlying26 hi hz0 hz1 hz2 rfl (by decide) _ _ _ rfl ((HRW.out.alloc _).alloc _) ⟨wr.heap.size + 1, 0, none⟩ 1 1 _ rfl rfl (cell_five_new2 _ _ _ _ _ _ _ _) ?_ ?_ ?_ (by decide) ?_))
              · intro u hu; simp at hu; rcases hu with rfl | rfl | rfl | rfl | rfl <;> rfl
              · unfold maxLen; omega
              · omega
              · intro g' cap' w12 hown12 hgrow12 hloc12 _ _
                have HR12 : Hid (w12.ownsRow 0 34 5 (.slice (some ⟨g', 0, none⟩) (L1.length + I + 1) cap') (L1.length + (I + 1)) (cellsPs (L1 ++ (L2.take (I + 1)).map (mvP (H1 + 1))))) := by
                  rw [HTK.out, cellsPs_append, HCE.out]
                  rw [← List.map_take] at hown12
                  exact hown12
                have HB12 : Hid (∀ k, Value.ownBlock (.slice (some ⟨g', 0, none⟩) (L1.length + I + 1) cap') = some k → LB = some k ∨ w11.heap.size ≤ k) := fun k hk => by
                  simp [Value.ownBlock] at hk
                  subst hk
                  rcases hloc12 with e | e
                  · exact HBK.out _ e
                  · right
                    have := HFr.out.size
                    omega
                have HF12 : Hid (Fr (fun k => LB = some k) w11 w12) := ((HFr.out.alloc _).alloc _).grown hgrow12 (fun k hk hlt => by
                  rcases HBK.out k hk with e | e
                  · exact e
                  · omega)
                clear hown12 hgrow12 hloc12 a0 a1 a2 a3 a4 c0 c1 c2 c3 c4 c5
                go_wp2_with fail
                go_roundg (L2.length - (I + 1))
                case measure => omega
                case rel => exact ⟨I + 1, by omega, rfl, HR12.out, HB12.out, HF12.out⟩
            · have dI : decide (I < L2.length) = false := decide_eq_false hIL
              have HO3r : Hid (OwnPs wr w10.heap.size (.slice aoL3 L3.length cL3) L3) := HO3.out.kept HFr.out (fun k hk e => by have := HLT1.out k e; have := HF910.out.size; omega)
              have HMR : Hid (OwnPs wr 0 u5 (L1 ++ L2.map (mvP (H1 + 1)))) := by
                refine ⟨?_, fun q hq => ?_, ?_⟩
                · have := HRW.out
                  rw [show I = L2.length by omega, List.take_length] at this
                  rw [List.length_append, List.length_map]
                  exact this
                · rcases List.mem_append.1 hq with h | h
                  · have hr := (HO1b.out.at_ q h).1
                    exact ⟨hr.kept HFr.out (fun e => own_ne HO1b.out.own hr (by decide) (by rw [← HLE.out]; exact e)), Nat.zero_le _⟩
                  · obtain ⟨q', hq', rfl⟩ := List.mem_map.1 h
                    exact ⟨(HO2r.out.at_ q' hq').1, Nat.zero_le _⟩
                · rw [List.pairwise_append]
                  refine ⟨HO1b.out.sep, ?_, fun a ha b hb => ?_⟩
                  · rw [List.pairwise_map]; exact HO2b.out.sep
                  · obtain ⟨q', hq', rfl⟩ := List.mem_map.1 hb
                    have h1 := (HO1.out.at_ a ha).1.lt
                    have h2 := (HO2.out.at_ q' hq').2
                    show a.2.1 ≠ q'.2.1
                    omega
              have HEP : Hid (Calls Try.prog 13 #[.slice aoL3 (L1.length + L2.length) cL3, u5] wr fun e w' => e = .returned (.bool true) ∧ Fr (fun _ => False) wr w') := by
                have s3 := HO3r.out.seen HP3.out HSZ.out.2.2 HSZ.out.1 HSZ.out.2.1
                have sM := HMR.out.seen HPM.out HSZ.out.2.2 HSZ.out.1 HSZ.out.2.1
                rw [HLL.out] at s3
                refine eqPieces_same _ _ (L3.map rpOf) ((L1 ++ L2.map (mvP (H1 + 1))).map rpOf) wr s3 sM ?_ (fun i h1 h2 => ?_)
                · rw [List.length_map, List.length_map, List.length_append, List.length_map]; exact HLL.out
                · rw [List.length_map] at h1 h2
                  rw [List.getElem_map, List.getElem_map]
                  exact HAL.out i h1 h2
              go_wp2_with fail
              refine HEP.out.mono ?_
              rintro e w13 ⟨rfl, hf13⟩
              have HF13 : Hid (Fr (fun k => LB = some k) w11 w13) := HFr.out.trans hf13 (fun _ _ h => h.elim)
              clear hf13
              go_wp2_with fail
              refine (wakes_any _).mono ?_
              rintro e w14 ⟨rfl, hf14⟩
              have HF14 : Hid (Fr (fun _ => False) w w14) := HA.out.trans ((HF08.out.trans HF811.out (fun _ _ h => h)).trans (HF13.out.trans hf14 (fun _ _ h => h.elim)) (fun k hk e => by have := (HLT1.out k e).1; have := HF08.out.size; omega)) (fun _ _ h => h)
              clear hf14
              go_wp2_with fail
              go_ret
              exact ⟨rfl, HF14.out⟩

set_option maxRecDepth 100000 in
set_option maxHeartbeats 4000000 in
theorem beside_any (x y : Int) (v : Value) (l : List Nat) (x' y' : Int) (v' : Value) (l' : List Nat) (w : World)
    (a : (-9223372036854775808 ≤ x ∧ x ≤ 9223372036854775807) ∧ (-9223372036854775808 ≤ y ∧ y ≤ 9223372036854775807) ∧ Seen w v l ∧ CapOK v ∧ ∀ j : Nat, l[j]?.getD 0 < 18446744073709551616)
    (b : (-9223372036854775808 ≤ x' ∧ x' ≤ 9223372036854775807) ∧ (-9223372036854775808 ≤ y' ∧ y' ≤ 9223372036854775807) ∧ Seen w v' l' ∧ CapOK v' ∧ ∀ j : Nat, l'[j]?.getD 0 < 18446744073709551616) :
    Calls Try.prog 8 #[.agg #[.int .i64 x, .int .i64 y, v, .int .i64 x', .int .i64 y', v']] w fun e w' => e = .returned (.bool true) ∧ Fr (fun _ => False) w w' := by
  obtain ⟨a1, a2, a3, a4, a5⟩ := a
  obtain ⟨b1, b2, b3, b4, b5⟩ := b
  by_cases hv : validB x y l = true ∧ validB x' y' l' = true
  · obtain ⟨W1, H1, P1, rfl, rfl, rfl, hb1⟩ := valid_bm hv.1 a3 a4 a5
    obtain ⟨W2, H2, P2, rfl, rfl, rfl, hb2⟩ := valid_bm hv.2 b3 b4 b5
    exact beside_main W1 H1 W2 H2 v v' P1 P2 w hb1 hb2
  · have HM1 : Hid (∀ w', Fr (fun _ => False) w w' → Calls Try.prog 21 #[.agg #[.int .i64 x, .int .i64 y, v]] w' fun e w'' => e = .returned (.bool (validB x y l)) ∧ Fr (fun _ => False) w' w'') := fun w' hf => may_any x y v l w' a1 a2 (a3.kept hf) a5
    have HM2 : Hid (∀ w', Fr (fun _ => False) w w' → Calls Try.prog 21 #[.agg #[.int .i64 x', .int .i64 y', v']] w' fun e w'' => e = .returned (.bool (validB x' y' l')) ∧ Fr (fun _ => False) w' w'') := fun w' hf => may_any x' y' v' l' w' b1 b2 (b3.kept hf) b5
    obtain ⟨ao1, cap1, rfl, -, -⟩ := a3
    obtain ⟨ao2, cap2, rfl, -, -⟩ := b3
    clear a1 a2 a4 a5 b1 b2 b4 b5
    generalize l.length = n1 at *
    generalize l'.length = n2 at *
    have HA : Hid (Fr (fun _ => False) w (w.alloc (.cells #[.int .i64 x, .int .i64 y, .slice ao1 n1 cap1, .int .i64 x', .int .i64 y', .slice ao2 n2 cap2] 57))) := (Fr.refl _ _).alloc _
    have HBX : Hid (∀ w', Fr (fun _ => False) (w.alloc (.cells #[.int .i64 x, .int .i64 y, .slice ao1 n1 cap1, .int .i64 x', .int .i64 y', .slice ao2 n2 cap2] 57)) w' → w'.cell? ⟨w.heap.size, 0, none⟩ = some (.int .i64 x) ∧ w'.cell? ⟨w.heap.size, 1, none⟩ = some (.int .i64 y) ∧ w'.cell? ⟨w.heap.size, 2, none⟩ = some (.slice ao1 n1 cap1) ∧ w'.cell? ⟨w.heap.size, 3, none⟩ = some (.int .i64 x') ∧ w'.cell? ⟨w.heap.size, 4, none⟩ = some (.int .i64 y') ∧ w'.cell? ⟨w.heap.size, 5, none⟩ = some (.slice ao2 n2 cap2)) := fun w' hf => by
      have hB : w'.heap[w.heap.size]? = some (.cells #[.int .i64 x, .int .i64 y, .slice ao1 n1 cap1, .int .i64 x', .int .i64 y', .slice ao2 n2 cap2] 57 (0, 0)) := by
        rw [hf.block _ (by simp) (fun h => h)]; exact heap_alloc_new _ _
      refine ⟨?_, ?_, ?_, ?_, ?_, ?_⟩ <;> simp [World.cell?, hB]
    go_enter Try.func8, Try.ntmps8
    obtain ⟨c0, c1, c2, c3, c4, c5⟩ := HBX.out _ (Fr.refl _ _)
    go_wp2_with fail
    generalize hw0 : w.alloc (.cells #[.int .i64 x, .int .i64 y, .slice ao1 n1 cap1, .int .i64 x', .int .i64 y', .slice ao2 n2 cap2] 57) = w0 at *
    clear hw0
    refine (HM1.out _ HA.out).mono ?_
    rintro e w1 ⟨rfl, hf1⟩
    have HF1 : Hid (Fr (fun _ => False) w0 w1) := hf1
    clear hf1 c0 c1 c2 c3 c4 c5
    obtain ⟨c0, c1, c2, c3, c4, c5⟩ := HBX.out _ HF1.out
    cases h1 : validB x y l with
    | false =>
      go_wp2_with fail
      refine (wakes_any _).mono ?_
      rintro e w30 ⟨rfl, hf30⟩
      have HF30 : Hid (Fr (fun _ => False) w w30) := (HA.out.trans HF1.out (fun _ _ h => h)).trans hf30 (fun _ _ h => h)
      clear hf30
      go_wp2_with fail
      go_ret
      exact ⟨rfl, HF30.out⟩
    | true =>
      have h2 : validB x' y' l' = false := by
        cases h : validB x' y' l' with
        | false => rfl
        | true => exact absurd ⟨h1, h⟩ hv
      go_wp2_with fail
      refine (HM2.out _ (HA.out.trans HF1.out (fun _ _ h => h))).mono ?_
      rintro e w2 ⟨rfl, hf2⟩
      have HF2 : Hid (Fr (fun _ => False) w0 w2) := HF1.out.trans hf2 (fun _ _ h => h)
      clear hf2 c0 c1 c2 c3 c4 c5
      rw [h2]
      go_wp2_with fail
      refine (wakes_any _).mono ?_
      rintro e w30 ⟨rfl, hf30⟩
      have HF30 : Hid (Fr (fun _ => False) w w30) := (HA.out.trans HF2.out (fun _ _ h => h)).trans hf30 (fun _ _ h => h)
      clear hf30
      go_wp2_with fail
      go_ret
      exact ⟨rfl, HF30.out⟩

end Go.Proofs.Ytgpciopoionmeaa
