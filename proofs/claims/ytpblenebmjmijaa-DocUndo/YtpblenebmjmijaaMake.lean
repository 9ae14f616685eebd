/- 'white', 'New', 'Count', 'Get', 'Size'. -/
import Derived.Test.YtpblenebmjmijaaSpan
namespace Go.Proofs.Ytpblenebmjmijaa
open Go.RowKit

theorem Try.info70 : (Try.prog.info? 32).map (fun i => (i.zero, i.size, i.bytes)) = some (some (.int .u64 0), 1, 8) := by kernel_rfl

/-- A map that a call has made: its blocks are new. -/
structure NewMap (w w' : World) (b g cap W H : Nat) (P : Nat → Nat → Bool) : Prop where
  at_ : MapAt w' b g cap W H P
  fr : Fr (fun _ => False) w w'
  nb : w.heap.size ≤ b
  ng : w.heap.size ≤ g

theorem ownsRow_base {w : World} {b b' : Nat} {e : TypeId} {size : Nat} {v : Value} {n : Nat} {xs : List Value} (h : w.ownsRow b e size v n xs) (hb : ∀ k, v.ownBlock = some k → b' ≤ k) : w.ownsRow b' e size v n xs := by
  refine ⟨h.1, ?_⟩
  rcases h.2 with hn | ⟨g, cap, cur, rfl, _, r⟩
  · exact Or.inl hn
  · exact Or.inr ⟨g, cap, cur, rfl, hb g rfl, r⟩

theorem render_white (W H : Nat) : render W H (fun _ _ => false) = List.replicate (H * stride W) 0 := by
  apply List.ext_getElem?
  intro i
  by_cases hi : i < H * stride W
  · rw [render_get' _ hi, List.getElem?_replicate, if_pos hi]
    unfold wd
    simp [wordOf_false]
  · rw [List.getElem?_eq_none (by rw [length_render]; omega), List.getElem?_eq_none (by simp; omega)]
theorem wordCells_replicate (n : Nat) : wordCells (List.replicate n 0) = List.replicate n (.int .u64 0) := by simp [wordCells]

theorem size_facts {W H : Nat} (h1 : 1 ≤ W) (h2 : 1 ≤ H) (h3 : W * H ≤ 1048576) : W ≤ 1048576 ∧ H ≤ 1048576 ∧ H * stride W ≤ 1048576 := by
  have a : W * 1 ≤ W * H := Nat.mul_le_mul_left _ h2
  have b : 1 * H ≤ W * H := Nat.mul_le_mul_right _ h1
  have c : stride W ≤ W := by unfold stride; omega
  have d : H * stride W ≤ H * W := Nat.mul_le_mul_left _ c
  rw [Nat.mul_comm H W] at d
  omega

set_option maxRecDepth 100000 in
set_option maxHeartbeats 1000000 in
theorem white_any (W H : Nat) (w : World) (h1 : 1 ≤ W) (h2 : 1 ≤ H) (h3 : W * H ≤ 1048576) :
    Calls Try.prog 37 #[.int .i64 W, .int .i64 H] w fun e w' => ∃ b g, e = .returned (.pointer (some ⟨b, 0, none⟩)) ∧ NewMap w w' b g (H * stride W) W H (fun _ _ => false) := by
  obtain ⟨i0, hi, hz0, hz1, hz2⟩ := info_parts Try.info70
  obtain ⟨f1, f2, f3⟩ := size_facts h1 h2 h3
  have HR : Hid (wordCells (render W H (fun _ _ => false)) = List.replicate (H * stride W) (.int .u64 0)) := by show _ = _; rw [render_white, wordCells_replicate]
  have HA : Hid (1 ≤ W ∧ 1 ≤ H ∧ W * H ≤ 1048576) := ⟨h1, h2, h3⟩
  have HN : Hid (∀ w1 w2 : World, (w2.ownsRow 0 32 1 (.slice (some ⟨w.heap.size, 0, none⟩) (H * stride W) (H * stride W)) (H * stride W) (wordCells (render W H (fun _ _ => false)))) → w2.heap[w1.heap.size]? = some (.cells #[.int .i64 W, .int .i64 H, .int .i64 (stride W : Nat), .slice (some ⟨w.heap.size, 0, none⟩) (H * stride W) (H * stride W)] 90 (0, 0)) → MapAt w2 w1.heap.size w.heap.size (H * stride W) W H (fun _ _ => false)) := fun w1 w2 a b => ⟨b, a, h1, h2, h3⟩
  clear h3
  go_enter Try.func37, Try.ntmps37
  go_wp2_with fail
  refine (strideOf_any W _ f1).mono ?_
  rintro e w1 ⟨rfl, rfl⟩
  have hm1 : (H : Int) * (stride W : Int) = ((H * stride W : Nat) : Int) := by push_cast; rfl
  generalize hgS : stride W = S at HR HN hm1 f3 ⊢
  generalize hgN : H * S = N at HR HN hm1 f3
  have HSN : Hid (stride W = S ∧ H * S = N) := ⟨hgS, hgN⟩
  clear hgS hgN
  go_wp2_with (first | (at_make; refine wpList_make_full _ rfl _ _ 52 rfl w1.heap.size 32 i0 (.int .u64 0) 1 Try.underlying52 hi hz0 hz1 .i64 .i64 _ _ N rfl rfl ?_ ?_ ?_ ?_ ?_ ?_))
  · omega
  · omega
  · rw [hz2]; omega
  · unfold maxLen; omega
  · omega
  · intro w2 hown hgrow
    have HG : Hid (w1.grownBy w2 none) := hgrow
    have HO : Hid (w2.ownsRow w1.heap.size 32 1 (.slice (some ⟨w1.heap.size, 0, none⟩) N N) N (List.replicate N (.int .u64 0))) := by rw [← toList_madeCells_one]; exact hown
    clear hgrow hown
    go_wp2
    go_ret
    have hsz : w1.heap.size ≤ w2.heap.size := HG.out.size
    refine ⟨w2.heap.size, w1.heap.size, rfl, ?_, ((Fr.refl _ _).grown HG.out (fun _ e _ => by cases e)).alloc _, hsz, Nat.le_refl _⟩
    rw [HSN.out.1, HSN.out.2]
    refine HN.out w2 _ ?_ (heap_alloc_new _ _)
    rw [HR.out]
    exact (ownsRow_base HO.out (fun _ _ => Nat.zero_le _)).alloc _

theorem bit_num (x j : Nat) (h : x < 18446744073709551616) : wrap64 (bits .and .u64 ((x : Int) / 2 ^ j) 1) = (((x.testBit j).toNat : Nat) : Int) := by
  have l1 : x / 2 ^ j < 18446744073709551616 := Nat.lt_of_le_of_lt (Nat.div_le_self _ _) h
  have e : bits .and .u64 ((x : Int) / 2 ^ j) 1 = ((x / 2 ^ j % 2 : Nat) : Int) := by
    rw [cast_div_pow, ← Nat.and_one_is_mod]
    exact u64_and_nat _ 1 l1 (by omega)
  rw [e, Nat.testBit_eq_decide_div_mod_eq]
  have : x / 2 ^ j % 2 < 2 := Nat.mod_lt _ (by omega)
  generalize x / 2 ^ j % 2 = t at *
  rcases (show t = 0 ∨ t = 1 from by omega) with rfl | rfl <;> decide +kernel

set_option maxRecDepth 100000 in
set_option maxHeartbeats 1000000 in
theorem get_in (b g cap W H : Nat) (P : Nat → Nat → Bool) (x y : Nat) (w : World) (h : MapAt w b g cap W H P) (hx : x < W) (hy : y < H) :
    Calls Try.prog 39 #[.pointer (some ⟨b, 0, none⟩), .int .i64 x, .int .i64 y] w fun e w' => e = .returned (.int .i64 ((P x y).toNat : Nat)) ∧ ∃ q, w' = w.drewN q := by
  have HA : Hid (MapAt w b g cap W H P) := h
  obtain ⟨f1, f2, f3⟩ := size_facts h.wpos h.hpos h.area
  have hc := h.word (y := y) (j := x / 64) hy (by unfold stride; omega)
  have hpx := pix_wd (y := y) P hx
  have hlt := wd_lt W P y (x / 64)
  have hj : x / 64 < stride W := by unfold stride; omega
  clear h
  go_enter Try.func39, Try.ntmps39
  go_wp2_with fail
  refine (inside_any b g cap W H P x y _ HA.out).mono ?_
  rintro e w1 ⟨rfl, rfl⟩
  rw [decide_eq_true (by omega)]
  go_wp2_with fail
  refine (row_any b g cap W H P y _ HA.out hy).mono ?_
  rintro e w2 ⟨rfl, q, rfl⟩
  go_wp2_with fail
  go_ret
  refine ⟨congrArg (fun x => Ending.returned (Value.int .i64 x)) ?_, q, rfl⟩
  rw [← hpx, ← bit_num _ _ hlt]

set_option maxRecDepth 100000 in
set_option maxHeartbeats 1000000 in
theorem get_out (b g cap W H : Nat) (P : Nat → Nat → Bool) (x y : Int) (w : World) (h : MapAt w b g cap W H P) (hx : ¬ (0 ≤ x ∧ x < W ∧ 0 ≤ y ∧ y < H)) :
    Calls Try.prog 39 #[.pointer (some ⟨b, 0, none⟩), .int .i64 x, .int .i64 y] w fun e w' => e = .returned (.int .i64 0) ∧ w' = w := by
  go_enter Try.func39, Try.ntmps39
  go_wp2_with fail
  refine (inside_any b g cap W H P x y _ h).mono ?_
  rintro e w1 ⟨rfl, rfl⟩
  rw [decide_eq_false hx]
  go_wp2_with fail
  go_ret
  exact ⟨rfl, rfl⟩

set_option maxRecDepth 100000 in
set_option maxHeartbeats 1000000 in
theorem size_any (b g cap W H : Nat) (P : Nat → Nat → Bool) (w : World) (h : MapAt w b g cap W H P) :
    Calls Try.prog 26 #[.pointer (some ⟨b, 0, none⟩)] w fun e w' => e = .returned (.tuple #[.int .i64 W, .int .i64 H]) ∧ ∃ q, w' = w.drewN q := by
  obtain ⟨c0, c1, c2, c3, cf⟩ := cell_of_four h.blk
  clear h
  go_enter Try.func26, Try.ntmps26
  go_wp2
  go_region
  go_wp2
  go_ret2
  exact ⟨rfl, 1, rfl⟩

set_option maxRecDepth 100000 in
set_option maxHeartbeats 1000000 in
theorem new_yes (W H : Nat) (w : World) (h1 : 1 ≤ W) (h2 : 1 ≤ H) (h3 : W * H ≤ 1048576) :
    Calls Try.prog 17 #[.int .i64 W, .int .i64 H] w fun e w' => ∃ b g, e = .returned (.tuple #[.pointer (some ⟨b, 0, none⟩), .int .i64 0]) ∧ NewMap w w' b g (H * stride W) W H (fun _ _ => false) := by
  obtain ⟨f1, f2, f3⟩ := size_facts h1 h2 h3
  have hs : sizeOK (W : Int) (H : Int) = true := by
    unfold sizeOK
    refine decide_eq_true ⟨by omega, by omega, ?_⟩
    rw [← Int.natCast_mul]; omega
  have HA : Hid (1 ≤ W ∧ 1 ≤ H ∧ W * H ≤ 1048576) := ⟨h1, h2, h3⟩
  clear h1 h2 h3
  go_enter Try.func17, Try.ntmps17
  go_wp2_with fail
  refine (isSize_any W H _ (by omega) (by omega)).mono ?_
  rintro e w1 ⟨rfl, rfl⟩
  rw [hs]
  go_wp2_with fail
  refine (white_any W H _ HA.out.1 HA.out.2.1 HA.out.2.2).mono ?_
  rintro e w2 ⟨b, g, rfl, hn⟩
  have HN : Hid (NewMap w1 w2 b g (H * stride W) W H (fun _ _ => false)) := hn
  clear hn
  go_wp2_with fail
  go_ret2
  exact ⟨b, g, rfl, HN.out⟩

set_option maxRecDepth 100000 in
set_option maxHeartbeats 1000000 in
theorem new_no (x y : Int) (w : World) (hx : -9223372036854775808 ≤ x ∧ x ≤ 9223372036854775807) (hy : -9223372036854775808 ≤ y ∧ y ≤ 9223372036854775807) (hs : sizeOK x y = false) :
    Calls Try.prog 17 #[.int .i64 x, .int .i64 y] w fun e w' => e = .returned (.tuple #[.pointer none, .int .i64 20]) ∧ w' = w := by
  go_enter Try.func17, Try.ntmps17
  go_wp2_with fail
  refine (isSize_any x y _ hx hy).mono ?_
  rintro e w1 ⟨rfl, rfl⟩
  rw [hs]
  go_wp2_with fail
  go_ret2
  exact ⟨rfl, rfl⟩

end Go.Proofs.Ytpblenebmjmijaa
