/- 'Fill' by pixels. -/
import Derived.Test.YtpblenebmjmijaaBlits
import Derived.Deep.RegionHeld3
import Derived.Deep.Cut
import Derived.Deep.Light
import Derived.Deep.CutRange
namespace Go.Proofs.Ytpblenebmjmijaa
open Go.RowKit


def fillPix (P : Nat → Nat → Bool) (x y ww hh : Int) (c : Bool) : Nat → Nat → Bool :=
  fun a e => if (0 ≤ (a : Int) - x ∧ (a : Int) - x < ww) ∧ (0 ≤ (e : Int) - y ∧ (e : Int) - y < hh) then c else P a e
/-- Rows that are painted, k of them. -/
def rowsPainted (P : Nat → Nat → Bool) (q1 n1 q2 k : Nat) (c : Bool) : Nat → Nat → Bool :=
  fun a e => if (q1 ≤ a ∧ a < q1 + n1) ∧ (q2 ≤ e ∧ e < q2 + k) then c else P a e
theorem rowsPainted_zero (P : Nat → Nat → Bool) (q1 n1 q2 : Nat) (c : Bool) : rowsPainted P q1 n1 q2 0 c = P := by
  funext a e; unfold rowsPainted; rw [if_neg (by omega)]
theorem rowsPainted_step (P : Nat → Nat → Bool) (q1 n1 q2 k : Nat) (c : Bool) : laidAll (rowsPainted P q1 n1 q2 k c) (q2 + k) q1 n1 (fun _ => c) = rowsPainted P q1 n1 q2 (k + 1) c := by
  funext a e
  unfold laidAll rowsPainted
  by_cases h1 : e = q2 + k ∧ q1 ≤ a ∧ a < q1 + n1
  · rw [if_pos h1, if_pos ⟨⟨h1.2.1, h1.2.2⟩, by omega, by omega⟩]
  · rw [if_neg h1]
    by_cases h2 : (q1 ≤ a ∧ a < q1 + n1) ∧ (q2 ≤ e ∧ e < q2 + k)
    · rw [if_pos h2, if_pos ⟨h2.1, by omega, by omega⟩]
    · rw [if_neg h2, if_neg (by omega)]
theorem fill_pix {P : Nat → Nat → Bool} {W H p1 q1 n1 p2 q2 n2 : Nat} {x y ww hh : Int} (c1 : Clip x W x W ww p1 q1 n1) (c2 : Clip y H y H hh p2 q2 n2) (c : Bool) :
    ∀ a e, a < W → e < H → rowsPainted P q1 n1 q2 n2 c a e = fillPix P x y ww hh c a e := by
  intro a e ha he
  unfold rowsPainted fillPix
  have e1 := clip_in c1 a ha
  have e2 := clip_in c2 e he
  by_cases h1 : (q1 ≤ a ∧ a < q1 + n1) ∧ (q2 ≤ e ∧ e < q2 + n2)
  · have a1 := e1.2 h1.1
    have a2 := e2.2 h1.2
    rw [if_pos h1, if_pos ⟨⟨a1.1, a1.2.1⟩, a2.1, a2.2.1⟩]
  · rw [if_neg h1, if_neg]
    rintro ⟨⟨u1, u2⟩, u3, u4⟩
    exact h1 ⟨e1.1 ⟨u1, u2, by omega, by omega⟩, e2.1 ⟨u3, u4, by omega, by omega⟩⟩

set_option maxRecDepth 100000 in
set_option maxHeartbeats 1000000 in
theorem fill_rect (b : Nat) (x y ww hh bit : Int) (w : World) (h : ww < 0 ∨ hh < 0) :
    Calls Try.prog 29 #[.pointer (some ⟨b, 0, none⟩), .int .i64 x, .int .i64 y, .int .i64 ww, .int .i64 hh, .int .i64 bit] w fun e w' => e = .returned (.int .i64 24) ∧ w' = w := by
  by_cases h1 : ww < 0
  · go_enter Try.func29, Try.ntmps29
    go_wp2_with fail
    go_ret
    exact ⟨rfl, rfl⟩
  · have h2 : hh < 0 := by omega
    go_enter Try.func29, Try.ntmps29
    go_wp2_with fail
    go_ret
    exact ⟨rfl, rfl⟩

set_option maxRecDepth 100000 in
set_option maxHeartbeats 1000000 in
theorem fill_bit (b : Nat) (x y ww hh bit : Int) (w : World) (h1 : 0 ≤ ww) (h2 : 0 ≤ hh) (h3 : ¬ (bit = 0 ∨ bit = 1)) :
    Calls Try.prog 29 #[.pointer (some ⟨b, 0, none⟩), .int .i64 x, .int .i64 y, .int .i64 ww, .int .i64 hh, .int .i64 bit] w fun e w' => e = .returned (.int .i64 23) ∧ w' = w := by
  go_enter Try.func29, Try.ntmps29
  go_wp2_with fail
  refine (isBit_any bit _).mono ?_
  rintro e w1 ⟨rfl, rfl⟩
  rw [decide_eq_false h3]
  go_wp2_with fail
  go_ret
  exact ⟨rfl, rfl⟩

theorem set3_same {w : World} {o : Nat} {x y z : Value} (h : w.heap[o]? = some (.cells #[x, y, z] 88 (0, 0))) (a b c : Value) : (((w.setCell ⟨o, 0, none⟩ a).setCell ⟨o, 1, none⟩ b).setCell ⟨o, 2, none⟩ c).heap[o]? = some (.cells #[a, b, c] 88 (0, 0)) := by
  simp [World.setCell, Array.getElem?_modify, h]
theorem set3_other {w : World} {o k : Nat} (h : k ≠ o) (a b c : Value) : (((w.setCell ⟨o, 0, none⟩ a).setCell ⟨o, 1, none⟩ b).setCell ⟨o, 2, none⟩ c).heap[k]? = w.heap[k]? := by
  rw [Below.heap_setCell _ _ _ _ h, Below.heap_setCell _ _ _ _ h, Below.heap_setCell _ _ _ _ h]
theorem set3_size (w : World) (o : Nat) (a b c : Value) : (((w.setCell ⟨o, 0, none⟩ a).setCell ⟨o, 1, none⟩ b).setCell ⟨o, 2, none⟩ c).heap.size = w.heap.size := by simp [World.setCell]
theorem new_at (w : World) (x y z : Value) {k : Nat} (h : k = w.heap.size) : (w.alloc (.cells #[x, y, z] 88)).heap[k]? = some (.cells #[x, y, z] 88 (0, 0)) := by subst h; exact heap_alloc_new _ _
theorem Fr.set3 {w w' : World} (f : Fr (fun _ => False) w w') {o : Nat} (h : w.heap.size ≤ o) (a b c : Value) : Fr (fun _ => False) w (((w'.setCell ⟨o, 0, none⟩ a).setCell ⟨o, 1, none⟩ b).setCell ⟨o, 2, none⟩ c) :=
  ((f.setCell (p := ⟨o, 0, none⟩) (fun hh => absurd hh (Nat.not_lt.2 h)) a).setCell (p := ⟨o, 1, none⟩) (fun hh => absurd hh (Nat.not_lt.2 h)) b).setCell (p := ⟨o, 2, none⟩) (fun hh => absurd hh (Nat.not_lt.2 h)) c
theorem z_old {w w' : World} (f : Fr (fun _ => False) w w') {o : Nat} (h : w.heap[o]? = some (.cells #[.int .i64 0, .int .i64 0, .int .i64 0] 88 (0, 0))) : w'.heap[o]? = some (.cells #[.int .i64 0, .int .i64 0, .int .i64 0] 88 (0, 0)) := by rw [f.block o (lt_of_block h) (fun hh => hh)]; exact h
theorem z_up {w : World} {o : Nat} (h : w.heap[o]? = some (.cells #[.int .i64 0, .int .i64 0, .int .i64 0] 88 (0, 0))) (x : Obj) : (w.alloc x).heap[o]? = some (.cells #[.int .i64 0, .int .i64 0, .int .i64 0] 88 (0, 0)) := by rw [Below.heap_alloc _ _ _ (lt_of_block h)]; exact h
theorem z_new (w : World) {k : Nat} (h : k = w.heap.size) : (w.alloc (.cells #[.int .i64 0, .int .i64 0, .int .i64 0] 88)).heap[k]? = some (.cells #[.int .i64 0, .int .i64 0, .int .i64 0] 88 (0, 0)) := new_at w _ _ _ h

theorem Fr.cells {a b : World} (h : Fr (fun _ => False) a b) : ∀ (o k : Nat), o < a.heap.size → b.cell? ⟨o, k, none⟩ = a.cell? ⟨o, k, none⟩ := fun _ _ ho => h.cell ho (fun hh => hh)
theorem Fr.frozens {a b : World} (h : Fr (fun _ => False) a b) : ∀ (o k : Nat), o < a.heap.size → b.frozen? ⟨o, k, none⟩ = a.frozen? ⟨o, k, none⟩ := fun o k ho => by
  unfold World.frozen?
  rw [h.block o ho (fun hh => hh)]

set_option maxRecDepth 100000 in
set_option maxHeartbeats 40000000 in
theorem fill_any (b g cap W H bit : Nat) (P : Nat → Nat → Bool) (x y ww hh : Int) (w : World) (h : MapAt w b g cap W H P) (hbit : bit ≤ 1)
    (b1 : -9223372036854775808 ≤ x ∧ x ≤ 9223372036854775807) (b2 : -9223372036854775808 ≤ y ∧ y ≤ 9223372036854775807) (b3 : 0 ≤ ww ∧ ww ≤ 9223372036854775807) (b4 : 0 ≤ hh ∧ hh ≤ 9223372036854775807) :
    Calls Try.prog 29 #[.pointer (some ⟨b, 0, none⟩), .int .i64 x, .int .i64 y, .int .i64 ww, .int .i64 hh, .int .i64 bit] w fun e w' => e = .returned (.int .i64 0) ∧ MapAt w' b g cap W H (fillPix P x y ww hh (decide (bit = 1))) ∧ Fr (fun k => k = g) w w' := by
  obtain ⟨s1, s2, s3⟩ := size_facts h.wpos h.hpos h.area
  have HA : Hid (MapAt w b g cap W H P) := h
  have HC1 : Hid (∀ w', Calls Try.prog 49 #[.int .i64 x, .int .i64 W, .int .i64 x, .int .i64 W, .int .i64 ww] w' fun e w'' => ∃ a b c, e = .returned (.agg #[.int .i64 (a : Nat), .int .i64 (b : Nat), .int .i64 (c : Nat)]) ∧ Clip x W x W ww a b c ∧ Fr (fun _ => False) w' w'') := fun w' => clip_any x x ww W W w' b1 b1 b3 s1 s1
  have HC2 : Hid (∀ w', Calls Try.prog 49 #[.int .i64 y, .int .i64 H, .int .i64 y, .int .i64 H, .int .i64 hh] w' fun e w'' => ∃ a b c, e = .returned (.agg #[.int .i64 (a : Nat), .int .i64 (b : Nat), .int .i64 (c : Nat)]) ∧ Clip y H y H hh a b c ∧ Fr (fun _ => False) w' w'') := fun w' => clip_any y y hh H H w' b2 b2 b4 s2 s2
  have HCD : Hid (∀ w', Fr (fun _ => False) w w' → w'.cell? ⟨b, 0, none⟩ = some (.int .i64 W) ∧ w'.cell? ⟨b, 1, none⟩ = some (.int .i64 H)) := fun w' hf => by
    obtain ⟨c0, c1, _⟩ := cell_of_four h.blk
    refine ⟨?_, ?_⟩
    · rw [hf.cell h.lt (fun hh => hh)]; exact c0
    · rw [hf.cell h.lt (fun hh => hh)]; exact c1
  obtain ⟨c0, c1, _⟩ := cell_of_four h.blk
  have hhb : Hid (bit ≤ 1) := hbit
  clear h b1 b2 s3
  go_enter Try.func29, Try.ntmps29
  go_wp2_with fail
  refine (isBit_any bit _).mono ?_
  rintro e w1 ⟨rfl, rfl⟩
  rw [decide_eq_true (by have := hhb.out; omega)]
  go_upto_region 5 with (fail)
  have hgl := HA.out.glt
  go_cut [13, 14] from 16 to 48 (fun u v wc => ∃ o1 o2 p1 q1 n1 p2 q2 n2 : Nat, u = .pointer (some ⟨o1, 0, none⟩) ∧ v = .pointer (some ⟨o2, 0, none⟩) ∧ w1.heap.size ≤ o1 ∧ w1.heap.size ≤ o2 ∧ wc.heap[o1]? = some (.cells #[.int .i64 p1, .int .i64 q1, .int .i64 n1] 88 (0, 0)) ∧ wc.heap[o2]? = some (.cells #[.int .i64 p2, .int .i64 q2, .int .i64 n2] 88 (0, 0)) ∧ Clip x W x W ww p1 q1 n1 ∧ Clip y H y H hh p2 q2 n2 ∧ Fr (fun _ => False) w1 wc)
  case first =>
    go_region_held3 (fun w' => w'.cell? ⟨b, 0, none⟩ = some (.int .i64 W) ∧ w'.cell? ⟨b, 1, none⟩ = some (.int .i64 H)) (exact HCD.out _ (by repeat (first | with_reducible refine Fr.setCell ?_ (fun hh => absurd hh (Nat.not_lt.2 (by first | exact Nat.le_refl _ | exact Nat.le_succ _ | exact ks0 | exact Nat.le_succ_of_le ks0))) _ | with_reducible refine Fr.alloc ?_ _ | with_reducible refine Fr.drew ?_ | with_reducible exact Fr.refl _ _ | with_reducible refine Fr.trans ?_ hf5 (fun _ _ hh => hh) | with_reducible refine Fr.trans ?_ hf4 (fun _ _ hh => hh)))) (first | (go_at_call 49; (have _ := hf4); refine (HC2.out _).mono ?_; rintro e w5 ⟨p2, q2, n2, rfl, hc2, hf5⟩; (have hc5 := hf5.cells); (have hz5 := hf5.frozens); (have hs5 := hf5.size); (try have ku0 : w1.heap.size ≤ w5.heap.size := by simp at hs4 hs5; omega); (try have ku1 : w1.heap.size < w5.heap.size := by simp at hs4 hs5; omega); (try have ku2 : w1.heap.size + 1 < w5.heap.size := by simp at hs4 hs5; omega); (try have ku3 : w1.heap.size + 1 ≤ w5.heap.size := by simp at hs4 hs5; omega); (try have kt0 : w4.heap.size ≤ w5.heap.size := by simp at hs5; omega); (try have kt1 : w4.heap.size < w5.heap.size := by simp at hs5; omega); (try have kt2 : w4.heap.size + 1 < w5.heap.size := by simp at hs5; omega); (try have kt3 : w4.heap.size + 1 ≤ w5.heap.size := by simp at hs5; omega)) | (go_at_call 49; refine (HC1.out _).mono ?_; rintro e w4 ⟨p1, q1, n1, rfl, hc1, hf4⟩; (have hc4 := hf4.cells); (have hz4 := hf4.frozens); (have hs4 := hf4.size); (try have ks0 : w1.heap.size ≤ w4.heap.size := by simp at hs4; omega); (try have ks1 : w1.heap.size < w4.heap.size := by simp at hs4; omega); (try have ks2 : w1.heap.size + 1 < w4.heap.size := by simp at hs4; omega); (try have ks3 : w1.heap.size + 1 ≤ w4.heap.size := by simp at hs4; omega)))
    · go_wp2_with fail
      go_meet
      go_light
      have f5 : Fr (fun _ => False) w1 w5 := (((Fr.refl (fun _ => False) w1).drew.trans hf4 (fun _ _ hh => hh)).trans hf5 (fun _ _ hh => hh))
      have s5 := f5.size
      have s4 := (((Fr.refl (fun _ => False) w1).drew.trans hf4 (fun _ _ hh => hh))).size
      have r4 := hf4.size
      have r5 := hf5.size
      (try simp at r4 r5)
      exact ⟨_, _, p1, q1, n1, p2, q2, n2, rfl, rfl, by omega, by omega, (by rw [Below.heap_alloc _ _ _ (by simp)]; exact heap_alloc_new _ _), (new_at _ _ _ _ (by simp)), hc1, hc2, ((f5.alloc _).alloc _)⟩
    · go_wp2_with fail
      go_meet
      go_light
      have f5 : Fr (fun _ => False) w1 w5 := (((Fr.refl (fun _ => False) w1).drew.trans hf4 (fun _ _ hh => hh)).trans hf5 (fun _ _ hh => hh))
      have s5 := f5.size
      have s4 := (((Fr.refl (fun _ => False) w1).drew.trans hf4 (fun _ _ hh => hh))).size
      have r4 := hf4.size
      have r5 := hf5.size
      (try simp at r4 r5)
      exact ⟨_, _, p1, q1, n1, p2, q2, n2, rfl, rfl, by omega, by omega, (new_at _ _ _ _ (by simp)), (by rw [Below.heap_alloc _ _ _ (by simp)]; exact heap_alloc_new _ _), hc1, hc2, ((f5.alloc _).alloc _)⟩
    · go_wp2_with fail
      go_meet
      go_light
      have f5 : Fr (fun _ => False) w1 w5 := ((((Fr.refl (fun _ => False) w1).drew.trans hf4 (fun _ _ hh => hh)).alloc _).trans hf5 (fun _ _ hh => hh))
      have s5 := f5.size
      have s4 := (((Fr.refl (fun _ => False) w1).drew.trans hf4 (fun _ _ hh => hh))).size
      have r4 := hf4.size
      have r5 := hf5.size
      (try simp at r4 r5)
      have zw4 : w5.heap[w4.heap.size]? = some (.cells #[.int .i64 0, .int .i64 0, .int .i64 0] 88 (0, 0)) := (z_old hf5 (z_new w4 rfl))
      exact ⟨_, _, p1, q1, n1, p2, q2, n2, rfl, rfl, by omega, by omega, (by rw [Below.heap_alloc _ _ _ (by rw [set3_size]; exact lt_of_block zw4)]; exact set3_same zw4 _ _ _), (new_at _ _ _ _ (set3_size _ _ _ _ _).symm), hc1, hc2, ((f5.set3 (by omega) _ _ _).alloc _)⟩
    · go_wp2_with fail
      go_meet
      go_light
      have f5 : Fr (fun _ => False) w1 w5 := (((((Fr.refl (fun _ => False) w1).drew.trans hf4 (fun _ _ hh => hh)).alloc _).alloc _).trans hf5 (fun _ _ hh => hh))
      have s5 := f5.size
      have s4 := (((Fr.refl (fun _ => False) w1).drew.trans hf4 (fun _ _ hh => hh))).size
      have r4 := hf4.size
      have r5 := hf5.size
      (try simp at r4 r5)
      have zw4 : w5.heap[w4.heap.size]? = some (.cells #[.int .i64 0, .int .i64 0, .int .i64 0] 88 (0, 0)) := (z_old hf5 (z_up (z_new w4 rfl) _))
      have zw4p1 : w5.heap[w4.heap.size + 1]? = some (.cells #[.int .i64 0, .int .i64 0, .int .i64 0] 88 (0, 0)) := (z_old hf5 (z_new (w4.alloc (.cells #[.int .i64 0, .int .i64 0, .int .i64 0] 88)) (k := w4.heap.size + 1) (by simp)))
      exact ⟨_, _, p1, q1, n1, p2, q2, n2, rfl, rfl, by omega, by omega, ((set3_other (by omega) _ _ _).trans (set3_same zw4 _ _ _)), (set3_same ((set3_other (by omega) _ _ _).trans zw4p1) _ _ _), hc1, hc2, ((f5.set3 (by omega) _ _ _).set3 (by omega) _ _ _)⟩
    · go_wp2_with fail
      go_meet
      go_light
      have f5 : Fr (fun _ => False) w1 w5 := ((((Fr.refl (fun _ => False) w1).drew.trans hf4 (fun _ _ hh => hh)).alloc _).trans hf5 (fun _ _ hh => hh))
      have s5 := f5.size
      have s4 := (((Fr.refl (fun _ => False) w1).drew.trans hf4 (fun _ _ hh => hh))).size
      have r4 := hf4.size
      have r5 := hf5.size
      (try simp at r4 r5)
      have zw4 : w5.heap[w4.heap.size]? = some (.cells #[.int .i64 0, .int .i64 0, .int .i64 0] 88 (0, 0)) := (z_old hf5 (z_new w4 rfl))
      exact ⟨_, _, p1, q1, n1, p2, q2, n2, rfl, rfl, by omega, by omega, (new_at _ _ _ _ (set3_size _ _ _ _ _).symm), (by rw [Below.heap_alloc _ _ _ (by rw [set3_size]; exact lt_of_block zw4)]; exact set3_same zw4 _ _ _), hc1, hc2, ((f5.set3 (by omega) _ _ _).alloc _)⟩
    · go_wp2_with fail
      go_meet
      go_light
      have f5 : Fr (fun _ => False) w1 w5 := (((((Fr.refl (fun _ => False) w1).drew.trans hf4 (fun _ _ hh => hh)).alloc _).alloc _).trans hf5 (fun _ _ hh => hh))
      have s5 := f5.size
      have s4 := (((Fr.refl (fun _ => False) w1).drew.trans hf4 (fun _ _ hh => hh))).size
      have r4 := hf4.size
      have r5 := hf5.size
      (try simp at r4 r5)
      have zw4p1 : w5.heap[w4.heap.size + 1]? = some (.cells #[.int .i64 0, .int .i64 0, .int .i64 0] 88 (0, 0)) := (z_old hf5 (z_new (w4.alloc (.cells #[.int .i64 0, .int .i64 0, .int .i64 0] 88)) (k := w4.heap.size + 1) (by simp)))
      have zw4 : w5.heap[w4.heap.size]? = some (.cells #[.int .i64 0, .int .i64 0, .int .i64 0] 88 (0, 0)) := (z_old hf5 (z_up (z_new w4 rfl) _))
      exact ⟨_, _, p1, q1, n1, p2, q2, n2, rfl, rfl, by omega, by omega, ((set3_other (by omega) _ _ _).trans (set3_same zw4p1 _ _ _)), (set3_same ((set3_other (by omega) _ _ _).trans zw4) _ _ _), hc1, hc2, ((f5.set3 (by omega) _ _ _).set3 (by omega) _ _ _)⟩
    · go_wp2_with fail
      go_meet
      go_light
      have f5 : Fr (fun _ => False) w1 w5 := ((((Fr.refl (fun _ => False) w1).alloc _).drew.trans hf4 (fun _ _ hh => hh)).trans hf5 (fun _ _ hh => hh))
      have s5 := f5.size
      have s4 := ((((Fr.refl (fun _ => False) w1).alloc _).drew.trans hf4 (fun _ _ hh => hh))).size
      have r4 := hf4.size
      have r5 := hf5.size
      (try simp at r4 r5)
      have zw1 : w5.heap[w1.heap.size]? = some (.cells #[.int .i64 0, .int .i64 0, .int .i64 0] 88 (0, 0)) := (z_old hf5 (z_old (w := (_ : World).drew) hf4 (z_new w1 rfl)))
      exact ⟨_, _, p1, q1, n1, p2, q2, n2, rfl, rfl, by omega, by omega, (by rw [Below.heap_alloc _ _ _ (by rw [set3_size]; exact lt_of_block zw1)]; exact set3_same zw1 _ _ _), (new_at _ _ _ _ (set3_size _ _ _ _ _).symm), hc1, hc2, ((f5.set3 (by omega) _ _ _).alloc _)⟩
    · go_wp2_with fail
      go_meet
      go_light
      have f5 : Fr (fun _ => False) w1 w5 := (((((Fr.refl (fun _ => False) w1).alloc _).drew.trans hf4 (fun _ _ hh => hh)).alloc _).trans hf5 (fun _ _ hh => hh))
      have s5 := f5.size
      have s4 := ((((Fr.refl (fun _ => False) w1).alloc _).drew.trans hf4 (fun _ _ hh => hh))).size
      have r4 := hf4.size
      have r5 := hf5.size
      (try simp at r4 r5)
      have zw1 : w5.heap[w1.heap.size]? = some (.cells #[.int .i64 0, .int .i64 0, .int .i64 0] 88 (0, 0)) := (z_old hf5 (z_up (z_old (w := (_ : World).drew) hf4 (z_new w1 rfl)) _))
      have zw4 : w5.heap[w4.heap.size]? = some (.cells #[.int .i64 0, .int .i64 0, .int .i64 0] 88 (0, 0)) := (z_old hf5 (z_new w4 rfl))
      exact ⟨_, _, p1, q1, n1, p2, q2, n2, rfl, rfl, by omega, by omega, ((set3_other (by omega) _ _ _).trans (set3_same zw1 _ _ _)), (set3_same ((set3_other (by omega) _ _ _).trans zw4) _ _ _), hc1, hc2, ((f5.set3 (by omega) _ _ _).set3 (by omega) _ _ _)⟩
    · go_wp2_with fail
      go_meet
      go_light
      have f5 : Fr (fun _ => False) w1 w5 := (((((Fr.refl (fun _ => False) w1).alloc _).alloc _).drew.trans hf4 (fun _ _ hh => hh)).trans hf5 (fun _ _ hh => hh))
      have s5 := f5.size
      have s4 := (((((Fr.refl (fun _ => False) w1).alloc _).alloc _).drew.trans hf4 (fun _ _ hh => hh))).size
      have r4 := hf4.size
      have r5 := hf5.size
      (try simp at r4 r5)
      have zw1 : w5.heap[w1.heap.size]? = some (.cells #[.int .i64 0, .int .i64 0, .int .i64 0] 88 (0, 0)) := (z_old hf5 (z_old (w := (_ : World).drew) hf4 (z_up (z_new w1 rfl) _)))
      have zw1p1 : w5.heap[w1.heap.size + 1]? = some (.cells #[.int .i64 0, .int .i64 0, .int .i64 0] 88 (0, 0)) := (z_old hf5 (z_old (w := (_ : World).drew) hf4 (z_new (w1.alloc (.cells #[.int .i64 0, .int .i64 0, .int .i64 0] 88)) (k := w1.heap.size + 1) (by simp))))
      exact ⟨_, _, p1, q1, n1, p2, q2, n2, rfl, rfl, by omega, by omega, ((set3_other (by omega) _ _ _).trans (set3_same zw1 _ _ _)), (set3_same ((set3_other (by omega) _ _ _).trans zw1p1) _ _ _), hc1, hc2, ((f5.set3 (by omega) _ _ _).set3 (by omega) _ _ _)⟩
    · go_wp2_with fail
      go_meet
      go_light
      have f5 : Fr (fun _ => False) w1 w5 := ((((Fr.refl (fun _ => False) w1).alloc _).drew.trans hf4 (fun _ _ hh => hh)).trans hf5 (fun _ _ hh => hh))
      have s5 := f5.size
      have s4 := ((((Fr.refl (fun _ => False) w1).alloc _).drew.trans hf4 (fun _ _ hh => hh))).size
      have r4 := hf4.size
      have r5 := hf5.size
      (try simp at r4 r5)
      have zw1 : w5.heap[w1.heap.size]? = some (.cells #[.int .i64 0, .int .i64 0, .int .i64 0] 88 (0, 0)) := (z_old hf5 (z_old (w := (_ : World).drew) hf4 (z_new w1 rfl)))
      exact ⟨_, _, p1, q1, n1, p2, q2, n2, rfl, rfl, by omega, by omega, (new_at _ _ _ _ (set3_size _ _ _ _ _).symm), (by rw [Below.heap_alloc _ _ _ (by rw [set3_size]; exact lt_of_block zw1)]; exact set3_same zw1 _ _ _), hc1, hc2, ((f5.set3 (by omega) _ _ _).alloc _)⟩
    · go_wp2_with fail
      go_meet
      go_light
      have f5 : Fr (fun _ => False) w1 w5 := (((((Fr.refl (fun _ => False) w1).alloc _).drew.trans hf4 (fun _ _ hh => hh)).alloc _).trans hf5 (fun _ _ hh => hh))
      have s5 := f5.size
      have s4 := ((((Fr.refl (fun _ => False) w1).alloc _).drew.trans hf4 (fun _ _ hh => hh))).size
      have r4 := hf4.size
      have r5 := hf5.size
      (try simp at r4 r5)
      have zw4 : w5.heap[w4.heap.size]? = some (.cells #[.int .i64 0, .int .i64 0, .int .i64 0] 88 (0, 0)) := (z_old hf5 (z_new w4 rfl))
      have zw1 : w5.heap[w1.heap.size]? = some (.cells #[.int .i64 0, .int .i64 0, .int .i64 0] 88 (0, 0)) := (z_old hf5 (z_up (z_old (w := (_ : World).drew) hf4 (z_new w1 rfl)) _))
      exact ⟨_, _, p1, q1, n1, p2, q2, n2, rfl, rfl, by omega, by omega, ((set3_other (by omega) _ _ _).trans (set3_same zw4 _ _ _)), (set3_same ((set3_other (by omega) _ _ _).trans zw1) _ _ _), hc1, hc2, ((f5.set3 (by omega) _ _ _).set3 (by omega) _ _ _)⟩
    · go_wp2_with fail
      go_meet
      go_light
      have f5 : Fr (fun _ => False) w1 w5 := (((((Fr.refl (fun _ => False) w1).alloc _).alloc _).drew.trans hf4 (fun _ _ hh => hh)).trans hf5 (fun _ _ hh => hh))
      have s5 := f5.size
      have s4 := (((((Fr.refl (fun _ => False) w1).alloc _).alloc _).drew.trans hf4 (fun _ _ hh => hh))).size
      have r4 := hf4.size
      have r5 := hf5.size
      (try simp at r4 r5)
      have zw1p1 : w5.heap[w1.heap.size + 1]? = some (.cells #[.int .i64 0, .int .i64 0, .int .i64 0] 88 (0, 0)) := (z_old hf5 (z_old (w := (_ : World).drew) hf4 (z_new (w1.alloc (.cells #[.int .i64 0, .int .i64 0, .int .i64 0] 88)) (k := w1.heap.size + 1) (by simp))))
      have zw1 : w5.heap[w1.heap.size]? = some (.cells #[.int .i64 0, .int .i64 0, .int .i64 0] 88 (0, 0)) := (z_old hf5 (z_old (w := (_ : World).drew) hf4 (z_up (z_new w1 rfl) _)))
      exact ⟨_, _, p1, q1, n1, p2, q2, n2, rfl, rfl, by omega, by omega, ((set3_other (by omega) _ _ _).trans (set3_same zw1p1 _ _ _)), (set3_same ((set3_other (by omega) _ _ _).trans zw1) _ _ _), hc1, hc2, ((f5.set3 (by omega) _ _ _).set3 (by omega) _ _ _)⟩
  case rest =>
    obtain ⟨o1, o2, p1, q1, n1, p2, q2, n2, rfl, rfl, ho1, ho2, hb1, hb2, hc1, hc2, hfc⟩ := hcut
    have HC1' : Hid (Clip x W x W ww p1 q1 n1) := hc1
    have HC2' : Hid (Clip y H y H hh p2 q2 n2) := hc2
    have a1 := hc1.hb
    have a2 := hc2.hb
    have HFc : Hid (Fr (fun _ => False) w1 wc) := hfc
    have HAc : Hid (MapAt wc b g cap W H (rowsPainted P q1 n1 q2 0 (decide (bit = 1)))) := by rw [rowsPainted_zero]; exact HA.out.kept hfc (fun x => x) (fun x => x)
    have hb1l := lt_of_block hb1
    have hb2l := lt_of_block hb2
    have HBX : Hid (∀ w', Fr (fun k => k = g) wc w' → (w'.cell? ⟨o1, 0, none⟩ = some (.int .i64 p1) ∧ w'.cell? ⟨o1, 1, none⟩ = some (.int .i64 q1) ∧ w'.cell? ⟨o1, 2, none⟩ = some (.int .i64 n1)) ∧ (w'.cell? ⟨o2, 1, none⟩ = some (.int .i64 q2) ∧ w'.cell? ⟨o2, 2, none⟩ = some (.int .i64 n2))) := fun w' hf => by
      have e1 : w'.heap[o1]? = some (.cells #[.int .i64 p1, .int .i64 q1, .int .i64 n1] 88 (0, 0)) := (hf.block _ hb1l (by omega)).trans hb1
      have e2 : w'.heap[o2]? = some (.cells #[.int .i64 p2, .int .i64 q2, .int .i64 n2] 88 (0, 0)) := (hf.block _ hb2l (by omega)).trans hb2
      obtain ⟨x0, x1, x2, _⟩ := cell_of_three e1
      obtain ⟨_, y1, y2, _⟩ := cell_of_three e2
      exact ⟨⟨x0, x1, x2⟩, y1, y2⟩
    obtain ⟨_, y1, y2, _⟩ := cell_of_three hb2
    have HRW : Hid (∀ (w' : World) (yy : Nat) (Q : Nat → Nat → Bool), MapAt w' b g cap W H Q → yy < H → Calls Try.prog 44 #[.pointer (some ⟨b, 0, none⟩), .int .i64 yy] w' fun e w'' => e = .returned (.slice (some ⟨g, yy * stride W, none⟩) (stride W) (stride W)) ∧ ∃ q, w'' = w'.drewN q) := fun w' yy Q hm hy => row_any b g cap W H Q yy w' hm hy
    have HPA : Hid (∀ (w' : World) (yy : Nat) (Q : Nat → Nat → Bool), MapAt w' b g cap W H Q → yy < H → Calls Try.prog 43 #[.slice (some ⟨g, yy * stride W, none⟩) (stride W) (stride W), .agg #[.int .i64 p1, .int .i64 q1, .int .i64 n1], .int .i64 bit] w' fun e w'' => e = .returned (.tuple #[]) ∧ MapAt w'' b g cap W H (laidAll Q yy q1 n1 fun _ => decide (bit = 1)) ∧ Fr (fun k => k = g) w' w'') := fun w' yy Q hm hy => paint_any b g cap W H Q yy q1 n1 bit p1 w' hm hy a1 hhb.out
    clear hb1 hb2 hc1 hc2 hfc HC1 HC2 HCD c0 c1 HA hb1l hb2l
    go_wp2_with fail
    go_loopw [51, 15] (fun i _ wr => ∃ k : Nat, k ≤ n2 ∧ i = .int .i64 k ∧ MapAt wr b g cap W H (rowsPainted P q1 n1 q2 k (decide (bit = 1))) ∧ Fr (fun k => k = g) wc wr) (fun i _ _ => n2 - (intOf i).toNat)
    case atStart => exact ⟨0, Nat.zero_le _, rfl, HAc.out, Fr.refl _ _⟩
    case round =>
      obtain ⟨k, hk, rfl, hm, hfr⟩ := hrel
      have HM : Hid (MapAt wr b g cap W H (rowsPainted P q1 n1 q2 k (decide (bit = 1)))) := hm
      have HFr : Hid (Fr (fun k => k = g) wc wr) := hfr
      clear hm hfr y1 y2
      by_cases hlt : k < n2
      · have HKC : Hid (∀ w', Fr (fun k => k = g) wr w' → w'.cell? ⟨o2, 1, none⟩ = some (.int .i64 q2) ∧ w'.cell? ⟨o1, 0, none⟩ = some (.int .i64 p1) ∧ w'.cell? ⟨o1, 1, none⟩ = some (.int .i64 q1) ∧ w'.cell? ⟨o1, 2, none⟩ = some (.int .i64 n1)) := fun w' hf => by
          obtain ⟨⟨x0, x1, x2⟩, y1, _⟩ := HBX.out w' (HFr.out.trans hf (fun _ _ hh => hh))
          exact ⟨y1, x0, x1, x2⟩
        obtain ⟨r, hr⟩ : ∃ r : Nat, r = q2 + k := ⟨_, rfl⟩
        have g1 : IntKind.i64.wrap ((q2 : Int) + (k : Int)) = (r : Int) := by rw [IntKind.wrap_i64]; omega
        have HR : Hid (r = q2 + k) := hr
        have hrH : r < H := by omega
        clear hr
        have HST : Hid (∀ w', MapAt w' b g cap W H (laidAll (rowsPainted P q1 n1 q2 k (decide (bit = 1))) r q1 n1 fun _ => decide (bit = 1)) → MapAt w' b g cap W H (rowsPainted P q1 n1 q2 (k + 1) (decide (bit = 1)))) := fun w' h => by
          rw [HR.out, rowsPainted_step] at h; exact h
        go_wp2_with fail
        go_region_held3 (fun w' => w'.cell? ⟨o2, 1, none⟩ = some (.int .i64 q2) ∧ w'.cell? ⟨o1, 0, none⟩ = some (.int .i64 p1) ∧ w'.cell? ⟨o1, 1, none⟩ = some (.int .i64 q1) ∧ w'.cell? ⟨o1, 2, none⟩ = some (.int .i64 n1)) (first | exact HKC.out _ ((Fr.refl _ _).drew) | exact HKC.out _ ((Fr.refl _ _).drewN _) | exact HKC.out _ (((Fr.refl _ _).drewN _).trans hf7 (fun _ _ hh => hh))) (first | (go_at_call 44; refine (HRW.out _ r _ (HM.out.kept ((Fr.refl (fun _ => False) _).drew) (fun x => x) (fun x => x)) hrH).mono ?_; rintro e w6 ⟨rfl, q6, rfl⟩) | (go_at_call 43; refine (HPA.out _ r _ (HM.out.drewN _) hrH).mono ?_; rintro e w7 ⟨rfl, hm7, hf7⟩))
        have HM7 : Hid (MapAt w7 b g cap W H (rowsPainted P q1 n1 q2 (k + 1) (decide (bit = 1)))) := HST.out w7 hm7
        have HF7 : Hid (Fr (fun k => k = g) wc w7) := (HFr.out.drewN _).trans hf7 (fun _ _ hh => hh)
        clear hm7 hf7
        go_wp2_with fail
        go_roundw
        case rel => exact ⟨k + 1, by omega, congrArg (Value.int .i64) (by omega), HM7.out, HF7.out⟩
        case measure => simp [intOf]; omega
      · have hkn : k = n2 := by omega
        subst hkn
        go_wp2_with fail
        go_ret
        exact ⟨rfl, HM.out.pix (fill_pix HC1'.out HC2'.out _), (HFc.out.mono (fun _ _ hh => hh.elim)).trans HFr.out (fun _ _ hh => hh)⟩

end Go.Proofs.Ytpblenebmjmijaa
