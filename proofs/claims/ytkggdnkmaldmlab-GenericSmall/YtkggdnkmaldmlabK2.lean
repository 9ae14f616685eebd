/- 'white', 'New', 'Count', 'Get', 'Size'. -/
import Derived.Test.YtkggdnkmaldmlabK1
import Derived.Deep.RegionHeld3
import Derived.Lib.SliceRun
import Derived.Handy
namespace Go.Proofs.Ytkggdnkmaldmlab
open Go.RowKit

theorem Try.info98 : (Try.prog.info? 67).map (fun i => (i.zero, i.size, i.bytes)) = some (some (.int .u64 0), 1, 8) := by kernel_rfl

/-- A map that a call has made: its blocks are new. -/
structure NewMap (w w' : World) (b g cap W H : Nat) (P : Nat → Nat → Bool) : Prop where
  at_ : MapAt w' b g cap W H P
  fr : Fr (fun _ => False) w w'
  nb : w.heap.size ≤ b
  ng : w.heap.size ≤ g

theorem ownsRow_base {w : World} {b b' : Nat} {e : TypeId} {size : Nat} {v : Value} {n : Nat} {xs : List Value} (h : w.ownsRow b e size v n xs) (hb : ∀ k, v.ownBlock = some k → b' ≤ k) : w.ownsRow b' e size v n xs := by
  refine ⟨h.1, ?_⟩
  rcases h.2 with hn | ⟨g, cap, cur, rfl, _, r⟩
  · exact Or.inl hn
  · exact Or.inr ⟨g, cap, cur, rfl, hb g rfl, r⟩

theorem render_white (W H : Nat) : render W H (fun _ _ => false) = List.replicate (H * stride W) 0 := by
  apply List.ext_getElem?
  intro i
  by_cases hi : i < H * stride W
  · rw [render_get' _ hi, List.getElem?_replicate, if_pos hi]
    unfold wd
    simp [wordOf_false]
  · rw [List.getElem?_eq_none (by rw [length_render]; omega), List.getElem?_eq_none (by simp; omega)]
theorem wordCells_replicate (n : Nat) : wordCells (List.replicate n 0) = List.replicate n (.int .u64 0) := by simp [wordCells]

theorem size_facts {W H : Nat} (h1 : 1 ≤ W) (h2 : 1 ≤ H) (h3 : W * H ≤ 1048576) : W ≤ 1048576 ∧ H ≤ 1048576 ∧ H * stride W ≤ 1048576 := by
  have a : W * 1 ≤ W * H := Nat.mul_le_mul_left _ h2
  have b : 1 * H ≤ W * H := Nat.mul_le_mul_right _ h1
  have c : stride W ≤ W := by unfold stride; omega
  have d : H * stride W ≤ H * W := Nat.mul_le_mul_left _ c
  rw [Nat.mul_comm H W] at d
  omega

theorem bit_num (x j : Nat) (h : x < 18446744073709551616) : wrap64 (bits .and .u64 ((x : Int) / 2 ^ j) 1) = (((x.testBit j).toNat : Nat) : Int) := by
  have l1 : x / 2 ^ j < 18446744073709551616 := Nat.lt_of_le_of_lt (Nat.div_le_self _ _) h
  have e : bits .and .u64 ((x : Int) / 2 ^ j) 1 = ((x / 2 ^ j % 2 : Nat) : Int) := by
    rw [cast_div_pow, ← Nat.and_one_is_mod]
    exact u64_and_nat _ 1 l1 (by omega)
  rw [e, Nat.testBit_eq_decide_div_mod_eq]
  have : x / 2 ^ j % 2 < 2 := Nat.mod_lt _ (by omega)
  generalize x / 2 ^ j % 2 = t at *
  rcases (show t = 0 ∨ t = 1 from by omega) with rfl | rfl <;> decide +kernel

end Go.Proofs.Ytkggdnkmaldmlab

/- A span of a row is written word by word; 'paint' and 'Set'. -/
namespace Go.Proofs.Ytkggdnkmaldmlab
open Go.RowKit

theorem Fr.cellEq {S : Nat → Prop} {w w' : World} (f : Fr S w w') {b o : Nat} (hb : b < w.heap.size) (hs : ¬ S b) : w'.cell? ⟨b, o, none⟩ = w.cell? ⟨b, o, none⟩ := by
  unfold World.cell?; rw [f.block b hb hs]

/-- Pixels of row y from to up to to + n, as far as word k of them, are N; all others P. -/
def laid (P : Nat → Nat → Bool) (y to n : Nat) (N : Nat → Bool) (k : Nat) : Nat → Nat → Bool :=
  fun a b => if b = y ∧ to ≤ a ∧ a < to + n ∧ a / 64 < fstW to n + k then N a else P a b
def laidAll (P : Nat → Nat → Bool) (y to n : Nat) (N : Nat → Bool) : Nat → Nat → Bool :=
  fun a b => if b = y ∧ to ≤ a ∧ a < to + n then N a else P a b

theorem laid_zero (P : Nat → Nat → Bool) (y to n : Nat) (N : Nat → Bool) : laid P y to n N 0 = P := by
  funext a b
  unfold laid fstW
  rw [if_neg]
  rintro ⟨_, h1, h2, h3⟩
  split at h3 <;> omega
theorem laid_all (P : Nat → Nat → Bool) (y to n : Nat) (N : Nat → Bool) : laid P y to n N (cntW to n) = laidAll P y to n N := by
  funext a b
  unfold laid laidAll
  by_cases h : b = y ∧ to ≤ a ∧ a < to + n
  · rw [if_pos h, if_pos]
    refine ⟨h.1, h.2.1, h.2.2, ?_⟩
    unfold fstW cntW
    split <;> omega
  · rw [if_neg h, if_neg]
    rintro ⟨h1, h2, h3, _⟩
    exact h ⟨h1, h2, h3⟩
theorem cnt_in {to n k : Nat} (hk : k < cntW to n) : 0 < n ∧ to < 64 * (fstW to n + k) + 64 ∧ 64 * (fstW to n + k) < to + n := by
  unfold cntW at hk
  unfold fstW
  by_cases h : n = 0
  · simp [h] at hk
  · simp only [h, if_false] at hk ⊢
    omega
theorem cnt_stride {W to n k : Nat} (hk : k < cntW to n) (h : to + n ≤ W) : fstW to n + k < stride W := by
  have := cnt_in hk
  unfold stride
  omega
theorem laid_wd (W : Nat) (P : Nat → Nat → Bool) (y to n : Nat) (N : Nat → Bool) (k : Nat) : wd W (laid P y to n N k) y (fstW to n + k) = wd W P y (fstW to n + k) := by
  apply wordOf_congr
  intro i hi
  congr 1
  unfold laid
  rw [if_neg]
  rintro ⟨_, _, _, h⟩
  omega

/-- The next word of the span is written. -/
theorem MapAt.step {w : World} {b g cap W H : Nat} {P : Nat → Nat → Bool} {y to n : Nat} {N : Nat → Bool} {k x : Nat} (h : MapAt w b g cap W H (laid P y to n N k)) (hk : k < cntW to n) (ht : to + n ≤ W) (hy : y < H) (hx : x < 18446744073709551616)
    (hb : ∀ i, i < 64 → x.testBit (63 - i) = if to ≤ 64 * (fstW to n + k) + i ∧ 64 * (fstW to n + k) + i < to + n then N (64 * (fstW to n + k) + i) else (wd W P y (fstW to n + k)).testBit (63 - i)) :
    MapAt (w.setCell ⟨g, y * stride W + (fstW to n + k), none⟩ (.int .u64 (x : Int))) b g cap W H (laid P y to n N (k + 1)) := by
  have hst := cnt_stride hk ht
  refine h.put hy hst hx ?_ ?_
  · intro i hi
    rw [hb i hi]
    by_cases hin : to ≤ 64 * (fstW to n + k) + i ∧ 64 * (fstW to n + k) + i < to + n
    · rw [if_pos hin]
      unfold laid
      rw [if_pos ⟨rfl, hin.1, hin.2, by omega⟩, decide_eq_true (by omega)]
      rfl
    · rw [if_neg hin]
      unfold wd
      rw [bit_wordOf _ _ hi]
      congr 1
      unfold laid
      rw [if_neg]
      rintro ⟨_, h1, h2, _⟩
      exact hin ⟨h1, h2⟩
  · intro a c _ _ hn
    unfold laid
    by_cases hin : c = y ∧ to ≤ a ∧ a < to + n ∧ a / 64 < fstW to n + k
    · rw [if_pos hin, if_pos ⟨hin.1, hin.2.1, hin.2.2.1, by omega⟩]
    · rw [if_neg hin, if_neg]
      rintro ⟨h1, h2, h3, h4⟩
      apply hin
      refine ⟨h1, h2, h3, ?_⟩
      have : ¬ a / 64 = fstW to n + k := fun e => hn ⟨h1, e⟩
      omega

/-- A word that is written over twice. -/
theorem setCell_twice (w : World) (p : Addr) (u v : Value) : (w.setCell p u).setCell p v = w.setCell p v := by
  unfold World.setCell
  simp only [World.mk.injEq, and_true]
  apply Array.ext_getElem?
  intro i
  simp only [Array.getElem?_modify]
  split
  · cases w.heap[i]? with
    | none => rfl
    | some o => cases o <;> by_cases hp : p.spot.isSome = true <;> simp [hp]
  · rfl

theorem not_mask (x m : Nat) (hm : m < 18446744073709551616) (i : Nat) (hi : i < 64) : (x &&& 18446744073709551615 - m).testBit i = (x.testBit i && !m.testBit i) := by
  rw [Nat.testBit_and, show 18446744073709551615 - m = 2 ^ 64 - (m + 1) from by omega, Nat.testBit_two_pow_sub_succ hm]
  simp [hi]

def spanMask (to n j : Nat) : Nat := wordOf fun i => decide (to ≤ 64 * j + i ∧ 64 * j + i < to + n)
theorem spanMask_lt (to n j : Nat) : spanMask to n j < 18446744073709551616 := wordOf_lt _
theorem spanMask_bit (to n j i : Nat) (hi : i < 64) : (spanMask to n j).testBit (63 - i) = decide (to ≤ 64 * j + i ∧ 64 * j + i < to + n) := bit_wordOf _ _ hi

end Go.Proofs.Ytkggdnkmaldmlab

/- What 'lay' stands on: lines of words, operations. -/
namespace Go.Proofs.Ytkggdnkmaldmlab
open Go.RowKit

theorem cell_of_three {w : World} {b : Nat} {x y z : Value} {t : TypeId} (h : w.heap[b]? = some (.cells #[x, y, z] t (0, 0))) :
    w.cell? ⟨b, 0, none⟩ = some x ∧ w.cell? ⟨b, 1, none⟩ = some y ∧ w.cell? ⟨b, 2, none⟩ = some z ∧ (∀ j, w.frozen? ⟨b, j, none⟩ = false) := by
  refine ⟨?_, ?_, ?_, fun j => ?_⟩ <;> simp [World.cell?, World.frozen?, h]


end Go.Proofs.Ytkggdnkmaldmlab

/- 'Clone', 'Plain', 'EqWords', 'EqBitmap'. -/
namespace Go.Proofs.Ytkggdnkmaldmlab
open Go.RowKit

/-- Words that a slice shows. -/
def Seen (w : World) (v : Value) (l : List Nat) : Prop := ∃ ao cap, v = .slice ao l.length cap ∧ l.length ≤ 9223372036854775807 ∧ (l ≠ [] → ∃ b off, ao = some ⟨b, off, none⟩ ∧ ∀ j, j < l.length → w.cell? ⟨b, off + j, none⟩ = some (.int .u64 (l[j]?.getD 0 : Nat)))
theorem Seen.of_row {w : World} {base : Nat} {v : Value} {l : List Nat} (h : w.ownsRow base 67 1 v l.length (wordCells l)) (hl : l.length ≤ 9223372036854775807) : Seen w v l := by
  rcases h.2 with ⟨rfl, e⟩ | ⟨g, cap, cur, rfl, _⟩
  · exact ⟨none, 0, by rw [e], hl, fun hn => absurd (List.eq_nil_of_length_eq_zero e) hn⟩
  · refine ⟨some ⟨g, 0, none⟩, cap, rfl, hl, fun _ => ⟨g, 0, rfl, fun j hj => ?_⟩⟩
    rw [Nat.zero_add, h.cellAt j (by omega), wordCells_get, List.getElem?_eq_getElem hj]
    rfl

theorem Seen.kept {S : Nat → Prop} {w w' : World} {v : Value} {l : List Nat} (h : Seen w v l) (f : Fr S w w') (hs : ∀ b, b < w.heap.size → ¬ S b := by intro _ _ hh; exact hh) : Seen w' v l := by
  obtain ⟨ao, cap, e, hl, hc⟩ := h
  refine ⟨ao, cap, e, hl, fun hn => ?_⟩
  obtain ⟨b, off, e2, hcc⟩ := hc hn
  refine ⟨b, off, e2, fun j hj => ?_⟩
  have hb : b < w.heap.size := by
    have := hcc j hj
    unfold World.cell? at this
    rcases Nat.lt_or_ge b w.heap.size with h | h
    · exact h
    · rw [Array.getElem?_eq_none h] at this; simp at this
  rw [f.cellEq hb (hs b hb)]
  exact hcc j hj

theorem row_out {w : World} {base n : Nat} {v : Value} {xs : List Value} (h : w.ownsRow base 67 1 v n xs) (hn : v ≠ .slice none 0 0) : ∃ g cap, v = .slice (some ⟨g, 0, none⟩) n cap ∧ base ≤ g := by
  rcases h.2 with ⟨rfl, e⟩ | ⟨g, cap, cur, rfl, hb, _⟩
  · exact absurd rfl hn
  · exact ⟨g, cap, rfl, hb⟩

theorem take_succ_eq {a b : List Nat} {k : Nat} (h : a.take k = b.take k) (ha : k < a.length) (hb : k < b.length) (he : a[k]?.getD 0 = b[k]?.getD 0) : a.take (k + 1) = b.take (k + 1) := by
  rw [List.take_succ_eq_append_getElem ha, List.take_succ_eq_append_getElem hb, h]
  rw [List.getElem?_eq_getElem ha, List.getElem?_eq_getElem hb] at he
  simp only [Option.getD_some] at he
  rw [he]

set_option maxRecDepth 100000 in
set_option maxHeartbeats 1000000 in
theorem eqw_len (v u : Value) (la lb : List Nat) (w : World) (ha : Seen w v la) (hb : Seen w u lb) (hl : la.length ≠ lb.length) :
    Calls Try.prog 48 #[v, u] w fun e w' => e = .returned (.bool false) ∧ w' = w := by
  obtain ⟨ao, ca, rfl, hla, _⟩ := ha
  obtain ⟨bo, cb, rfl, hlb, _⟩ := hb
  have ht : ((la.length : Int) != (lb.length : Int)) = true := by rw [bne_iff_ne]; omega
  go_enter Try.func48, Try.ntmps48
  go_wp2
  go_ret
  exact ⟨rfl, rfl⟩

set_option maxRecDepth 100000 in
set_option maxHeartbeats 1000000 in
theorem eqw_same (v u : Value) (la lb : List Nat) (w : World) (ha : Seen w v la) (hb : Seen w u lb) (hl : la.length = lb.length) (bb : Bool) (hbb : Hid (bb = decide (la = lb))) :
    Calls Try.prog 48 #[v, u] w fun e w' => e = .returned (.bool bb) ∧ ∃ q, w' = w.drewN q := by
  obtain ⟨ao, ca, rfl, hla, hca⟩ := ha
  obtain ⟨bo, cb, rfl, hlb, hcb⟩ := hb
  have HA : Hid (la ≠ [] → ∃ b off, ao = some ⟨b, off, none⟩ ∧ ∀ j, j < la.length → w.cell? ⟨b, off + j, none⟩ = some (.int .u64 (la[j]?.getD 0 : Nat))) := hca
  have HB : Hid (lb ≠ [] → ∃ b off, bo = some ⟨b, off, none⟩ ∧ ∀ j, j < lb.length → w.cell? ⟨b, off + j, none⟩ = some (.int .u64 (lb[j]?.getD 0 : Nat))) := hcb
  have HL : Hid (la.length = lb.length) := hl
  clear hca hcb hl hlb
  rw [← HL.out]
  obtain ⟨n, hn⟩ : ∃ n, n = la.length := ⟨_, rfl⟩
  rw [← hn] at hla ⊢
  have Hn : Hid (n = la.length) := hn
  clear hn
  have ht : ((n : Int) != (n : Int)) = false := by simp
  by_cases h0 : n = 0
  · have hbt : bb = true := by
      rw [hbb.out]
      have e1 : la = [] := List.eq_nil_of_length_eq_zero (by have := Hn.out; omega)
      have e2 : lb = [] := List.eq_nil_of_length_eq_zero (by have := Hn.out; have := HL.out; omega)
      simp [e1, e2]
    subst hbt; subst h0
    go_enter Try.func48, Try.ntmps48
    go_wp2
    refine wp_loop_rounds 1 ?_
    rw [rounds_succ]
    go_wp2
    go_ret
    exact ⟨rfl, 0, rfl⟩
  · obtain ⟨b, off, rfl, hca⟩ := HA.out (fun e => h0 (by have := Hn.out; rw [e] at this; simpa using this))
    obtain ⟨b2, off2, rfl, hcb⟩ := HB.out (fun e => h0 (by have := Hn.out; have h2 := HL.out; rw [e] at h2; simp at h2; rw [h2] at this; simpa using this))
    have KA : Hid (∀ j, j < n → w.cell? ⟨b, off + j, none⟩ = some (.int .u64 (la[j]?.getD 0 : Nat))) := fun j hj => hca j (by have := Hn.out; omega)
    have KB : Hid (∀ j, j < n → w.cell? ⟨b2, off2 + j, none⟩ = some (.int .u64 (lb[j]?.getD 0 : Nat))) := fun j hj => hcb j (by have := Hn.out; have := HL.out; omega)
    clear hca hcb HA HB
    go_enter Try.func48, Try.ntmps48
    go_wp2
    go_loopw [5] (fun i wr => ∃ (k q : Nat), k ≤ n ∧ i = .int .i64 k ∧ wr = w.drewN q ∧ Hid (la.take k = lb.take k)) (fun i _ => n - (intOf i).toNat)
    case atStart => exact ⟨0, 0, Nat.zero_le _, rfl, rfl, rfl⟩
    case round =>
      obtain ⟨k, q, hk, rfl, rfl, HT⟩ := hrel
      by_cases hlt : k < n
      · have c1 := KA.out k hlt
        have c2 := KB.out k hlt
        have HE : Hid (la[k]?.getD 0 = lb[k]?.getD 0 → la.take (k + 1) = lb.take (k + 1)) := fun he => take_succ_eq HT.out (by have := Hn.out; omega) (by have := Hn.out; have := HL.out; omega) he
        have HD : Hid (la[k]?.getD 0 ≠ lb[k]?.getD 0 → bb = false) := fun he => by
          rw [hbb.out]; simp; intro e; exact he (by rw [e])
        generalize la[k]?.getD 0 = x at *
        generalize lb[k]?.getD 0 = y at *
        by_cases hxy : x = y
        · subst hxy
          have HE2 : Hid (la.take (k + 1) = lb.take (k + 1)) := HE.out rfl
          clear HE HD
          have hne : ((x : Int) != (x : Int)) = false := by simp
          go_wp2
          go_quiet (fail)
          go_wp2
          go_roundw
          case rel => exact ⟨k + 1, _, by omega, congrArg (Value.int .i64) (by omega), rfl, HE2⟩
          case measure => simp [intOf]; omega
        · have hne : ((x : Int) != (y : Int)) = true := by rw [bne_iff_ne]; omega
          have hbf := HD.out hxy
          subst hbf
          clear HE HD
          go_wp2
          go_quiet (fail)
          go_wp2
          go_ret
          exact ⟨rfl, q + nq, World.drewN_drewN _ _ _⟩
      · have hkn : k = n := by omega
        have hbt : bb = true := by
          rw [hbb.out]
          have h1 := HT.out
          rw [List.take_of_length_le (by have := Hn.out; omega), List.take_of_length_le (by have := Hn.out; have := HL.out; omega)] at h1
          simp [h1]
        subst hbt; subst hkn
        go_wp2
        go_ret
        exact ⟨rfl, q, rfl⟩


set_option maxRecDepth 100000 in
set_option maxHeartbeats 1000000 in
theorem eqBitmap_same (W H : Nat) (v u : Value) (l : List Nat) (w : World) (ha : Seen w v l) (hb : Seen w u l) :
    Calls Try.prog 35 #[.agg #[.int .i64 W, .int .i64 H, v], .agg #[.int .i64 W, .int .i64 H, u]] w fun e w' => e = .returned (.bool true) ∧ Fr (fun _ => False) w w' := by
  have HQ : Hid (∀ w', Fr (fun _ => False) w w' → Calls Try.prog 48 #[v, u] w' fun e w'' => e = .returned (.bool true) ∧ ∃ q, w'' = w'.drewN q) := fun w' hf => eqw_same v u l l w' (ha.kept hf) (hb.kept hf) rfl true (by show true = _; simp)
  obtain ⟨ao, ca, rfl, hla, _⟩ := ha
  obtain ⟨bo, cb, rfl, hlb, _⟩ := hb
  have hw1 : ((W : Int) == (W : Int)) = true := by simp
  have hw2 : ((H : Int) == (H : Int)) = true := by simp
  go_enter Try.func35, Try.ntmps35
  go_wp2_with fail
  refine (HQ.out _ (((Fr.refl _ _).alloc _).alloc _)).mono ?_
  rintro e w1 ⟨rfl, q, hw1⟩
  have HF : Hid (Fr (fun _ => False) w w1) := by rw [hw1]; exact (((Fr.refl _ _).alloc _).alloc _).drewN q
  clear hw1
  go_wp2_with fail
  go_ret
  exact ⟨rfl, HF.out⟩

end Go.Proofs.Ytkggdnkmaldmlab
