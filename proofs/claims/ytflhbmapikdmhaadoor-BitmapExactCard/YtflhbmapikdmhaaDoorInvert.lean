/- 'Invert' by pixels. -/
import Derived.Test.YtflhbmapikdmhaaDoorPaint
import Derived.Test.YtflhbmapikdmhaaDoorLine
import Derived.Deep.RegionWith
namespace Go.Proofs.YtflhbmapikdmhaaDoor
open Go.RowKit

def rowsOf (F : Nat → Nat) (N : Nat) : List Nat := (List.range N).map F
theorem length_rowsOf (F : Nat → Nat) (N : Nat) : (rowsOf F N).length = N := by simp [rowsOf]
theorem rowsOf_get {F : Nat → Nat} {N i : Nat} (h : i < N) : (rowsOf F N)[i]? = some (F i) := by
  unfold rowsOf; rw [List.getElem?_map, List.getElem?_range h]; rfl
theorem rowsOf_set (F : Nat → Nat) (N i x : Nat) : (rowsOf F N).set i x = rowsOf (fun j => if j = i then x else F j) N := by
  apply List.ext_getElem?
  intro j
  rw [List.getElem?_set]
  by_cases hj : j < N
  · by_cases e : i = j
    · subst e; rw [if_pos rfl, if_pos (by rw [length_rowsOf]; exact hj), rowsOf_get hj, if_pos rfl]
    · rw [if_neg e, rowsOf_get hj, rowsOf_get hj, if_neg (fun h => e h.symm)]
  · rw [List.getElem?_eq_none (l := rowsOf _ _) (by rw [length_rowsOf]; omega), List.getElem?_eq_none (l := rowsOf _ _) (by rw [length_rowsOf]; omega)]
    by_cases e : i = j
    · rw [if_pos e, if_neg (by rw [length_rowsOf]; omega)]
    · rw [if_neg e]
theorem rowsOf_congr {F G : Nat → Nat} {N : Nat} (h : ∀ i, i < N → F i = G i) : rowsOf F N = rowsOf G N := by
  apply List.map_congr_left
  intro i hi
  exact h i (by simpa using hi)
theorem render_rowsOf (W H : Nat) (P : Nat → Nat → Bool) : render W H P = rowsOf (fun i => wd W P (i / stride W) (i % stride W)) (H * stride W) := rfl

def notw (x : Nat) : Nat := 18446744073709551615 - x
theorem notw_lt (x : Nat) : notw x < 18446744073709551616 := by unfold notw; omega
theorem notw_bit (x i : Nat) (h : x < 18446744073709551616) (hi : i < 64) : (notw x).testBit i = !x.testBit i := by
  unfold notw
  rw [show 18446744073709551615 - x = 2 ^ 64 - (x + 1) from by omega, Nat.testBit_two_pow_sub_succ h]
  simp [hi]
/-- A word all of whose bits are pixels. -/
theorem notw_wd (W : Nat) (P : Nat → Nat → Bool) (y j : Nat) (hj : 64 * j + 63 < W) : notw (wd W P y j) = wd W (fun a e => !P a e) y j := by
  refine word_eq (notw_lt _) ?_
  intro k hk
  rw [notw_bit _ _ (wd_lt _ _ _ _) (by omega)]
  unfold wd
  rw [bit_wordOf _ _ hk, decide_eq_true (by omega), Bool.true_and, Bool.true_and]
/-- The last word, its pad cleared. -/
theorem notw_last (W : Nat) (P : Nat → Nat → Bool) (y : Nat) (hW : 1 ≤ W) : notw (wd W P y (stride W - 1)) &&& 18446744073709551615 - (2 ^ (64 * stride W - W) - 1) = wd W (fun a e => !P a e) y (stride W - 1) := by
  have hp : 64 * stride W - W < 64 := by unfold stride; omega
  have hpl : 2 ^ (64 * stride W - W) - 1 < 18446744073709551616 := Nat.lt_of_le_of_lt (Nat.sub_le _ _) (Nat.pow_lt_pow_right (by omega) (show 64 * stride W - W < 64 from hp))
  refine word_eq (Nat.lt_of_le_of_lt Nat.and_le_left (notw_lt _)) ?_
  intro k hk
  rw [not_mask _ _ hpl _ (by omega), notw_bit _ _ (wd_lt _ _ _ _) (by omega), Nat.testBit_two_pow_sub_one]
  unfold wd
  rw [bit_wordOf _ _ hk]
  have hs : W ≤ 64 * stride W ∧ 64 * stride W < W + 64 := by unfold stride; omega
  by_cases hx : 64 * (stride W - 1) + k < W
  · rw [decide_eq_true hx, decide_eq_false (by omega)]
    simp
  · rw [decide_eq_false hx, decide_eq_true (by omega)]
    simp

/-- A map whose words are told by their numbers. -/
structure RawAt (w : World) (b g cap W H : Nat) (F : Nat → Nat) : Prop where
  blk : w.heap[b]? = some (.cells #[.int .i64 W, .int .i64 H, .int .i64 (stride W : Nat), .slice (some ⟨g, 0, none⟩) (H * stride W) cap] 67 (0, 0))
  own : w.ownsRow 0 77 1 (.slice (some ⟨g, 0, none⟩) (H * stride W) cap) (H * stride W) (wordCells (rowsOf F (H * stride W)))
theorem RawAt.ne {w : World} {b g cap W H : Nat} {F : Nat → Nat} (h : RawAt w b g cap W H F) : g ≠ b := by
  intro e
  subst e
  rcases h.own.2 with ⟨e, _⟩ | ⟨g', cap', cur, e, _, hg, _⟩
  · cases e
  · simp only [Value.slice.injEq, Option.some.injEq, Addr.mk.injEq] at e
    obtain ⟨⟨rfl, _⟩, _⟩ := e
    rw [h.blk] at hg
    simp at hg
theorem RawAt.lt {w : World} {b g cap W H : Nat} {F : Nat → Nat} (h : RawAt w b g cap W H F) : b < w.heap.size := lt_of_block h.blk
theorem RawAt.glt {w : World} {b g cap W H : Nat} {F : Nat → Nat} (h : RawAt w b g cap W H F) : g < w.heap.size := (h.own.lt g rfl).2
theorem RawAt.kept {w w' : World} {b g cap W H : Nat} {F : Nat → Nat} {S : Nat → Prop} (h : RawAt w b g cap W H F) (f : Fr S w w') (h1 : ¬ S b) (h2 : ¬ S g) : RawAt w' b g cap W H F :=
  ⟨by rw [f.block b h.lt h1]; exact h.blk, row_kept h.own f (fun k hk => by simp [Value.ownBlock] at hk; subst hk; exact h2)⟩
theorem RawAt.cell {w : World} {b g cap W H : Nat} {F : Nat → Nat} (h : RawAt w b g cap W H F) {i : Nat} (hi : i < H * stride W) : w.cell? ⟨g, i, none⟩ = some (.int .u64 (F i : Nat)) := by
  rw [h.own.cellAt _ (by omega), wordCells_get, rowsOf_get hi]; rfl
theorem RawAt.put {w : World} {b g cap W H : Nat} {F : Nat → Nat} (h : RawAt w b g cap W H F) (i x : Nat) : RawAt (w.setCell ⟨g, i, none⟩ (.int .u64 (x : Int))) b g cap W H (fun j => if j = i then x else F j) := by
  refine ⟨?_, ?_⟩
  · rw [Below.heap_setCell _ _ _ _ (by exact fun e => h.ne e.symm)]; exact h.blk
  · have := (h.own.stored i (.int .u64 (x : Int))).1
    rw [wordCells_set, rowsOf_set] at this
    exact this
theorem RawAt.congr {w : World} {b g cap W H : Nat} {F G : Nat → Nat} (h : RawAt w b g cap W H F) (e : ∀ i, i < H * stride W → F i = G i) : RawAt w b g cap W H G := ⟨h.blk, by rw [← rowsOf_congr e]; exact h.own⟩
theorem MapAt.raw {w : World} {b g cap W H : Nat} {P : Nat → Nat → Bool} (h : MapAt w b g cap W H P) : RawAt w b g cap W H (fun i => wd W P (i / stride W) (i % stride W)) := ⟨h.blk, h.own⟩
theorem RawAt.map {w : World} {b g cap W H : Nat} {F : Nat → Nat} {P : Nat → Nat → Bool} (h : RawAt w b g cap W H F) (h1 : 1 ≤ W) (h2 : 1 ≤ H) (h3 : W * H ≤ 1048576) (e : ∀ y j, y < H → j < stride W → F (y * stride W + j) = wd W P y j) : MapAt w b g cap W H P := by
  refine ⟨h.blk, ?_, h1, h2, h3⟩
  rw [render_rowsOf, ← rowsOf_congr (F := F)]
  · exact h.own
  · intro i hi
    have hS : 0 < stride W := by unfold stride; omega
    have := e (i / stride W) (i % stride W) (div_lt_of hi) (Nat.mod_lt _ hS)
    rw [Nat.mul_comm, Nat.div_add_mod] at this
    exact this

set_option maxRecDepth 100000 in
set_option maxHeartbeats 1000000 in
theorem row_raw (b g cap W H : Nat) (F : Nat → Nat) (y : Nat) (w : World) (h : RawAt w b g cap W H F) (h1 : 1 ≤ W) (h2 : 1 ≤ H) (h3 : W * H ≤ 1048576) (hy : y < H) :
    Calls Tryd.prog 34 #[.pointer (some ⟨b, 0, none⟩), .int .i64 y] w fun e w' => e = .returned (.slice (some ⟨g, y * stride W, none⟩) (stride W) (stride W)) ∧ ∃ q, w' = w.drewN q := by
  obtain ⟨c0, c1, c2, c3, cf⟩ := cell_of_four h.blk
  obtain ⟨f1, f2, hwl⟩ := size_facts h1 h2 h3
  have hca : H * stride W ≤ cap ∧ cap ≤ maxLen := by
    rcases h.own.2 with ⟨e, _⟩ | ⟨g', cap', cur, e, _, _, hc, hm, _⟩
    · cases e
    · simp at e; obtain ⟨_, rfl⟩ := e; exact ⟨hc, hm⟩
  unfold maxLen at hca
  have hend : y * stride W + stride W ≤ H * stride W := by rw [← Nat.succ_mul]; exact Nat.mul_le_mul_right _ hy
  have hS := stride_pos h1
  have hyb : (y : Int) ≤ 1048576 := by
    omega
  clear h cf c0 c1 h1 h2 h3 f1
  generalize stride W = S at *
  generalize H * S = N at *
  have hm1 : (y : Int) * (S : Int) = ((y * S : Nat) : Int) := by push_cast; rfl
  have hm2 : ((y : Int) + 1) * (S : Int) = ((y * S : Nat) : Int) + (S : Int) := by rw [Int.add_mul, hm1]; omega
  generalize y * S = a at *
  obtain ⟨hc1, hc2⟩ := hca
  have hn1 : ¬ a + S = a := by omega
  have hn2 : ¬ S = 0 := by omega
  go_enter Tryd.func34, Tryd.ntmps34
  go_wp2
  go_region
  go_wp2
  all_goals first | (exfalso; omega) | (go_ret; exact ⟨by simp, 1, rfl⟩)

/-- The words, where the first k rows, and m words of the next one, are turned. -/
def turned (W : Nat) (P : Nat → Nat → Bool) (k m : Nat) (i : Nat) : Nat :=
  if i / stride W < k then wd W (fun a e => !P a e) (i / stride W) (i % stride W) else if i / stride W = k ∧ i % stride W < m then notw (wd W P k (i % stride W)) else wd W P (i / stride W) (i % stride W)

theorem turned_step (W : Nat) (P : Nat → Nat → Bool) (k m : Nat) (hm : m < stride W) (i : Nat) : (if i = k * stride W + m then notw (wd W P k m) else turned W P k m i) = turned W P k (m + 1) i := by
  unfold turned
  by_cases h : i = k * stride W + m
  · subst h
    rw [if_pos rfl, at_div hm, at_mod hm, if_neg (by omega), if_pos ⟨rfl, by omega⟩]
  · rw [if_neg h]
    by_cases h1 : i / stride W < k
    · rw [if_pos h1, if_pos h1]
    · rw [if_neg h1, if_neg h1]
      by_cases h2 : i / stride W = k ∧ i % stride W < m
      · rw [if_pos h2, if_pos ⟨h2.1, by omega⟩]
      · rw [if_neg h2, if_neg]
        rintro ⟨h3, h4⟩
        apply h
        have h5 : i % stride W = m := by omega
        have := Nat.div_add_mod i (stride W)
        rw [h3, h5, Nat.mul_comm] at this
        exact this.symm
theorem turned_last (W : Nat) (P : Nat → Nat → Bool) (k : Nat) (hW : 1 ≤ W) (i : Nat) : (if i = k * stride W + (stride W - 1) then notw (wd W P k (stride W - 1)) &&& 18446744073709551615 - (2 ^ (64 * stride W - W) - 1) else turned W P k (stride W) i) = turned W P (k + 1) 0 i := by
  have hS : 0 < stride W := by unfold stride; omega
  have hs : W ≤ 64 * stride W ∧ 64 * stride W < W + 64 := by unfold stride; omega
  have hmod := Nat.mod_lt i hS
  unfold turned
  by_cases h : i = k * stride W + (stride W - 1)
  · subst h
    rw [if_pos rfl, at_div (by omega), at_mod (by omega), if_pos (by omega), notw_last W P k hW]
  · rw [if_neg h]
    by_cases h1 : i / stride W < k
    · rw [if_pos h1, if_pos (by omega)]
    · rw [if_neg h1]
      by_cases h2 : i / stride W = k
      · rw [if_pos ⟨h2, by omega⟩, if_pos (by omega), h2]
        refine notw_wd W P k _ ?_
        have h5 : i % stride W ≠ stride W - 1 := by
          intro h5
          apply h
          have := Nat.div_add_mod i (stride W)
          rw [h2, h5, Nat.mul_comm] at this
          exact this.symm
        omega
      · rw [if_neg (by omega), if_neg (by omega), if_neg (by omega)]

set_option maxRecDepth 100000 in
set_option maxHeartbeats 1000000 in
theorem invert_any (b g cap W H : Nat) (P : Nat → Nat → Bool) (w : World) (h : MapAt w b g cap W H P) :
    Calls Tryd.prog 12 #[.pointer (some ⟨b, 0, none⟩)] w fun e w' => e = .returned (.tuple #[]) ∧ MapAt w' b g cap W H (fun a e => !P a e) ∧ Fr (fun k => k = g) w w' := by
  obtain ⟨f1, f2, f3⟩ := size_facts h.wpos h.hpos h.area
  have HSZ : Hid (1 ≤ W ∧ 1 ≤ H ∧ W * H ≤ 1048576) := ⟨h.wpos, h.hpos, h.area⟩
  have HR0 : Hid (RawAt w b g cap W H (turned W P 0 0)) := h.raw.congr (fun i _ => by unfold turned; rw [if_neg (Nat.not_lt_zero _), if_neg (fun h => Nat.not_lt_zero _ h.2)])
  obtain ⟨c0, c1, c2, c3, cf⟩ := cell_of_four h.blk
  have hS : 0 < stride W := by have := h.wpos; unfold stride; omega
  have hSb : stride W ≤ 1048576 := by unfold stride; omega
  have HPD : Hid (∀ w', Calls Tryd.prog 43 #[.int .i64 W] w' fun e w'' => e = .returned (.int .u64 (2 ^ (64 * stride W - W) - 1 : Nat)) ∧ w'' = w') := fun w' => padOf_any W w' f1 HSZ.out.1
  have HROW : Hid (∀ (w' : World) (F : Nat → Nat) (y : Nat), RawAt w' b g cap W H F → y < H → Calls Tryd.prog 34 #[.pointer (some ⟨b, 0, none⟩), .int .i64 y] w' fun e w'' => e = .returned (.slice (some ⟨g, y * stride W, none⟩) (stride W) (stride W)) ∧ ∃ q, w'' = w'.drewN q) := fun w' F y hr hy => row_raw b g cap W H F y w' hr HSZ.out.1 HSZ.out.2.1 HSZ.out.2.2 hy
  clear h c0 c2 c3 cf
  go_enter Tryd.func12, Tryd.ntmps12
  go_wp2_with fail
  go_loopw [9, 2, 3, 4] (fun i _ _ _ wr => ∃ k : Nat, k ≤ H ∧ i = .int .i64 k ∧ RawAt wr b g cap W H (turned W P k 0) ∧ Fr (fun k => k = g) w wr) (fun i _ _ _ _ => H - (intOf i).toNat)
  case atStart => exact ⟨0, Nat.zero_le _, rfl, HR0.out, Fr.refl _ _⟩
  case round =>
    obtain ⟨k, hk, rfl, hrw, hfr⟩ := hrel
    have HR : Hid (RawAt wr b g cap W H (turned W P k 0)) := hrw
    have HF : Hid (Fr (fun k => k = g) w wr) := hfr
    clear hrw hfr c1
    by_cases hlt : k < H
    · go_wp2_with fail
      refine (HROW.out _ _ k HR.out hlt).mono ?_
      rintro e w1 ⟨rfl, q1, rfl⟩
      have HR1 : Hid (RawAt (wr.drewN q1) b g cap W H (turned W P k 0)) := HR.out.kept ((Fr.refl (fun _ => False) _).drewN q1) (fun hh => hh) (fun hh => hh)
      have HF1 : Hid (Fr (fun k => k = g) w (wr.drewN q1)) := HF.out.drewN q1
      generalize wr.drewN q1 = w1 at *
      have hkS : k * stride W + stride W ≤ H * stride W := by rw [← Nat.succ_mul]; exact Nat.mul_le_mul_right _ hlt
      go_wp2_with fail
      go_loopw [17, 4] (fun i _ wi => ∃ m : Nat, m ≤ stride W ∧ i = .int .i64 m ∧ RawAt wi b g cap W H (turned W P k m) ∧ Fr (fun k => k = g) w wi) (fun i _ _ => stride W - (intOf i).toNat)
      case atStart => exact ⟨0, Nat.zero_le _, rfl, HR1.out, HF1.out⟩
      case round =>
        obtain ⟨m, hm, rfl, hrw, hfr⟩ := hrel
        have HR2 : Hid (RawAt wr b g cap W H (turned W P k m)) := hrw
        have HF2 : Hid (Fr (fun k => k = g) w wr) := hfr
        clear hrw hfr
        by_cases hmt : m < stride W
        · have hcw := HR2.out.cell (i := k * stride W + m) (by omega)
          have hfz := HR2.out.own.frozenAt (k * stride W + m)
          have HTW : Hid (turned W P k m (k * stride W + m) = wd W P k m) := by
            show _ = _
            unfold turned
            rw [at_div hmt, at_mod hmt, if_neg (by omega), if_neg (by omega)]
          rw [HTW.out] at hcw
          have hlt2 := wd_lt W P k m
          have hnn : bits BinOp.xor IntKind.u64 (if IntKind.u64.signed = true then -1 else IntKind.u64.max) (wd W P k m : Int) = (notw (wd W P k m) : Int) := not_num (wd W P k m) hlt2
          go_wp2_with fail
          go_roundw
          case rel =>
            refine ⟨m + 1, by omega, congrArg (Value.int .i64) (by omega), ?_, HF2.out.setCell (fun _ => rfl) _⟩
            first
              | exact (HR2.out.put (k * stride W + m) (notw (wd W P k m))).congr (fun i _ => turned_step W P k m hmt i)
              | (rw [hnn]; exact (HR2.out.put (k * stride W + m) (notw (wd W P k m))).congr (fun i _ => turned_step W P k m hmt i))
          case measure => simp [intOf]; omega
        · have hmn : m = stride W := by omega
          subst hmn
          obtain ⟨j, hj⟩ : ∃ j, j = k * stride W + (stride W - 1) := ⟨_, rfl⟩
          have hcw := HR2.out.cell (i := j) (by omega)
          have hfz := HR2.out.own.frozenAt j
          have HTW : Hid (turned W P k (stride W) j = notw (wd W P k (stride W - 1))) := by
            show _ = _
            rw [hj]
            unfold turned
            rw [at_div (by omega), at_mod (by omega), if_neg (by omega), if_pos ⟨rfl, by omega⟩]
          rw [HTW.out] at hcw
          have hpl : 2 ^ (64 * stride W - W) - 1 < 18446744073709551616 := Nat.lt_of_le_of_lt (Nat.sub_le _ _) (Nat.pow_lt_pow_right (by omega) (show 64 * stride W - W < 64 from by unfold stride; omega))
          have HLA : Hid (∀ w', RawAt w' b g cap W H (turned W P k (stride W)) → RawAt (w'.setCell ⟨g, j, none⟩ (.int .u64 ((notw (wd W P k (stride W - 1)) &&& 18446744073709551615 - (2 ^ (64 * stride W - W) - 1) : Nat) : Int))) b g cap W H (turned W P (k + 1) 0)) := fun w' hr => by
            rw [hj]
            exact (hr.put (k * stride W + (stride W - 1)) _).congr (fun i _ => turned_last W P k HSZ.out.1 i)
          have k1 : bits .andNot .u64 ((notw (wd W P k (stride W - 1)) : Nat) : Int) ((2 ^ (64 * stride W - W) - 1 : Nat) : Int) = ((notw (wd W P k (stride W - 1)) &&& 18446744073709551615 - (2 ^ (64 * stride W - W) - 1) : Nat) : Int) := u64_andNot_nat _ _ (notw_lt _) hpl
          obtain ⟨c0, c1, c2, c3, cf⟩ := cell_of_four HR2.out.blk
          generalize notw (wd W P k (stride W - 1)) &&& 18446744073709551615 - (2 ^ (64 * stride W - W) - 1) = Y at *
          generalize notw (wd W P k (stride W - 1)) = X at *
          generalize 2 ^ (64 * stride W - W) - 1 = pd at *
          have g1 : (stride W : Int) - 1 = ((stride W - 1 : Nat) : Int) := by omega
          have g2 : k * stride W + (stride W - 1) = j := hj.symm
          have g3 : IntKind.i64.wrap ((stride W : Int) - 1) = (stride W : Int) - 1 := by rw [IntKind.wrap_i64]; omega
          have g4 : (0 : Int) ≤ (stride W : Int) - 1 := by omega
          have g5 : (stride W : Int) - 1 < (stride W : Int) := by omega
          have g6 : ((stride W : Int) - 1).toNat = stride W - 1 := by omega
          have g7 : (1 : Int) ≤ (stride W : Int) := by omega
          have hgb := HR2.out.ne
          clear hj hpl HTW c1 c3 g1
          go_wp2_with fail
          go_region_with (first | (go_at_call 43; refine (HPD.out _).mono ?_; rintro e w4 ⟨rfl, rfl⟩))
          all_goals
            go_wp2_with fail
            go_roundw
            case rel => exact ⟨k + 1, by omega, congrArg (Value.int .i64) (by omega), (HLA.out _ HR2.out).kept ((Fr.refl (fun _ => False) _).drew) (fun hh => hh) (fun hh => hh), (HF2.out.setCell (fun _ => rfl) _).drew⟩
            case measure => simp [intOf]; omega
    · have hkn : k = H := by omega
      subst hkn
      go_wp2_with fail
      go_end0
      refine ⟨rfl, ?_, HF.out⟩
      refine HR.out.map HSZ.out.1 HSZ.out.2.1 HSZ.out.2.2 ?_
      intro y j hy hj
      unfold turned
      rw [at_div hj, at_mod hj, if_pos hy]

end Go.Proofs.YtflhbmapikdmhaaDoor
