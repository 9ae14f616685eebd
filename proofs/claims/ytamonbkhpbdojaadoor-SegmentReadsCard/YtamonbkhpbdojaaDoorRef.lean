/- The plain writer: its bits one by one. -/
import Derived.Test.YtamonbkhpbdojaaDoorTwo
namespace Go.Proofs.YtamonbkhpbdojaaDoor
set_option maxRecDepth 100000
open Go.RowKit

theorem Tryd.info3 : (Tryd.prog.info? 3).map (fun i => (i.zero, i.size, i.bytes)) = some (some (.int .i64 0), 1, 8) := by kernel_rfl

def bitCells (bs : List Bool) : List Value := bs.map fun (b : Bool) => Value.int .i64 (b.toNat : Int)
theorem length_bitCells (bs : List Bool) : (bitCells bs).length = bs.length := by simp [bitCells]
theorem bitCells_snoc (bs : List Bool) (b : Bool) : bitCells (bs ++ [b]) = bitCells bs ++ [Value.int .i64 (b.toNat : Int)] := by simp [bitCells]
theorem bitCells_get (bs : List Bool) (j : Nat) (h : j < bs.length) : (bitCells bs)[j]? = some (Value.int .i64 ((bit bs j).toNat : Int)) := by
  unfold bitCells bit
  rw [List.getElem?_map, List.getElem?_eq_getElem h]
  rfl

/-- A plain writer: its block bf, its bits' slice v, its room in bytes, its bits. -/
structure FAt (w : World) (bf : Nat) (v : Value) (most : Nat) (bs : List Bool) : Prop where
  blk : w.heap[bf]? = some (.cells #[.int .i64 (most : Int), v] 53 (0, 0))
  own : w.ownsRow 0 3 1 v bs.length (bitCells bs)
  le : bs.length ≤ 8 * most
  lim : most ≤ 67108864

theorem FAt.lt {w : World} {bf : Nat} {v : Value} {most : Nat} {bs : List Bool} (h : FAt w bf v most bs) : bf < w.heap.size := lt_of_block h.blk
theorem FAt.rowlt {w : World} {bf : Nat} {v : Value} {most : Nat} {bs : List Bool} (h : FAt w bf v most bs) : ∀ k, v.ownBlock = some k → k < w.heap.size := fun k hk => (h.own.lt k hk).2
theorem FAt.rowne {w : World} {bf : Nat} {v : Value} {most : Nat} {bs : List Bool} (h : FAt w bf v most bs) : v.ownBlock ≠ some bf := by
  intro e
  rcases h.own.2 with ⟨rfl, _⟩ | ⟨g, cap, cur, rfl, _, hg, _⟩
  · simp [Value.ownBlock] at e
  · simp [Value.ownBlock] at e
    subst e
    rw [h.blk] at hg
    simp at hg
theorem FAt.kept {w w' : World} {bf : Nat} {v : Value} {most : Nat} {bs : List Bool} {S : Nat → Prop} (h : FAt w bf v most bs) (f : Fr S w w') (h1 : ¬ S bf) (h2 : ∀ k, v.ownBlock = some k → ¬ S k) : FAt w' bf v most bs :=
  ⟨by rw [f.block bf h.lt h1]; exact h.blk, row_kept h.own f h2, h.le, h.lim⟩
theorem FAt.drewN {w : World} {bf : Nat} {v : Value} {most : Nat} {bs : List Bool} (h : FAt w bf v most bs) (n : Nat) : FAt (w.drewN n) bf v most bs :=
  h.kept (S := fun _ => False) ((Fr.refl _ _).drewN n) (fun hh => hh) (fun _ _ hh => hh)
theorem FAt.form {w : World} {bf : Nat} {v : Value} {most : Nat} {bs : List Bool} (h : FAt w bf v most bs) : ∃ ao cap, v = .slice ao bs.length cap ∧ (0 < bs.length → ∃ g, ao = some ⟨g, 0, none⟩) := by
  rcases h.own.2 with ⟨rfl, e⟩ | ⟨g, cap, cur, rfl, _, _, hc, hm, _⟩
  · exact ⟨none, 0, by rw [e], fun hh => by omega⟩
  · exact ⟨_, cap, rfl, fun _ => ⟨g, rfl⟩⟩

theorem FAt.push {wr w1 : World} {bf : Nat} {v : Value} {most : Nat} {bs : List Bool} {b : Bool} {g' cap' : Nat} {X : Int} {o : Obj} (h : FAt wr bf v most bs)
    (hown : w1.ownsRow 0 3 1 (.slice (some ⟨g', 0, none⟩) (bs.length + 1) cap') (bs.length + 1) (bitCells bs ++ [.int .i64 X])) (hg : (wr.alloc o).grownBy w1 v.ownBlock) (hrow : v.ownBlock = some g' ∨ wr.heap.size < g')
    (hX : X = (b.toNat : Int)) (hroom : bs.length + 1 ≤ 8 * most) :
    FAt (w1.setCell ⟨bf, 1, none⟩ (.slice (some ⟨g', 0, none⟩) (bs.length + 1) cap')) bf (.slice (some ⟨g', 0, none⟩) (bs.length + 1) cap') most (bs ++ [b]) ∧
    WStep bf v (.slice (some ⟨g', 0, none⟩) (bs.length + 1) cap') wr (w1.setCell ⟨bf, 1, none⟩ (.slice (some ⟨g', 0, none⟩) (bs.length + 1) cap')) := by
  subst hX
  have hlt := h.lt
  have hgne : g' ≠ bf := by
    rcases hrow with e | e
    · intro e2; exact h.rowne (e.trans (by rw [e2]))
    · omega
  have hblk : w1.heap[bf]? = some (.cells #[.int .i64 (most : Int), v] 53 (0, 0)) := by
    rw [hg.block bf (by simp; omega) (fun e => h.rowne e.symm), Below.heap_alloc _ _ _ hlt]; exact h.blk
  have hl : (bs ++ [b]).length = bs.length + 1 := by simp
  refine ⟨⟨two_set1 hblk, ?_, by rw [hl]; exact hroom, h.lim⟩, ⟨?_, ?_⟩⟩
  · rw [hl, bitCells_snoc]
    exact ownsRow_setCell_other hown (by simp [Value.ownBlock, hgne]) _
  · have f1 : Fr (fun k => k = bf ∨ v.ownBlock = some k) wr w1 := ((Fr.refl _ _).alloc o).grown hg (fun k hk _ => Or.inr hk)
    exact f1.setCell (p := ⟨bf, 1, none⟩) (fun _ => Or.inl rfl) _
  · rcases hrow with e | e
    · exact Or.inl (by rw [e]; rfl)
    · exact Or.inr (fun k hk => by simp [Value.ownBlock] at hk; omega)

theorem one_bit (m : Nat) : bitsOf m 1 = [m.testBit 0] := by simp [bitsOf]
theorem bit_num (m : Nat) : ((m.testBit 0).toNat : Int) = ((m % 2 : Nat) : Int) := by
  rw [Nat.testBit_zero]
  rcases Nat.mod_two_eq_zero_or_one m with h | h <;> simp [h]

set_option maxRecDepth 100000 in
set_option maxHeartbeats 1000000 in
theorem rput_width (p : Value) (n : Int) (wd : Int) (w : World) (h : wd < 0 ∨ 64 < wd) :
    Calls Tryd.prog 23 #[p, .int .u64 n, .int .i64 wd] w fun e w' => e = .returned (.int .i64 11) ∧ w' = w := by
  rcases h with h | h
  · go_enter Tryd.func23, Tryd.ntmps23
    go_wp2
    go_ret
    exact ⟨rfl, rfl⟩
  · go_enter Tryd.func23, Tryd.ntmps23
    go_wp2
    go_ret
    exact ⟨rfl, rfl⟩

theorem value_pos (n wd : Nat) (h : 2 ^ wd ≤ n) : decide (0 < (n : Int) / 2 ^ wd) = true := by
  have : 0 < n / 2 ^ wd := Nat.div_pos h (Nat.pow_pos (by omega))
  have e : ((n : Int) / 2 ^ wd) = ((n / 2 ^ wd : Nat) : Int) := by simp
  rw [e]; simp; omega
theorem value_not (n wd : Nat) (h : n < 2 ^ wd) : decide (0 < (n : Int) / 2 ^ wd) = false := by
  have e : ((n : Int) / 2 ^ wd) = ((n / 2 ^ wd : Nat) : Int) := by simp
  rw [e, Nat.div_eq_of_lt h]; rfl

set_option maxRecDepth 100000 in
set_option maxHeartbeats 1000000 in
theorem rput_value (p : Value) (n wd : Nat) (w : World) (hw : wd < 64) (h : 2 ^ wd ≤ n) :
    Calls Tryd.prog 23 #[p, .int .u64 n, .int .i64 wd] w fun e w' => e = .returned (.int .i64 12) ∧ w' = w := by
  have ht := value_pos n wd h
  clear h
  go_enter Tryd.func23, Tryd.ntmps23
  go_wp2
  go_ret
  exact ⟨rfl, rfl⟩

set_option maxRecDepth 100000 in
set_option maxHeartbeats 1000000 in
theorem rput_full (bf : Nat) (v : Value) (most : Nat) (bs : List Bool) (n wd : Nat) (w : World) (h : FAt w bf v most bs) (hw : wd ≤ 64) (hv : n < 2 ^ wd) (hf : 8 * most < bs.length + wd) :
    Calls Tryd.prog 23 #[.pointer (some ⟨bf, 0, none⟩), .int .u64 n, .int .i64 wd] w fun e w' => e = .returned (.int .i64 13) ∧ ∃ q, w' = w.drewN q := by
  have ht := value_not n wd hv
  obtain ⟨c0, c1, cf⟩ := cell_of_two h.blk
  have hle := h.le
  have hlim := h.lim
  obtain ⟨ao, cap, rfl, _⟩ := h.form
  clear h hv
  by_cases h64 : wd < 64
  · go_enter Tryd.func23, Tryd.ntmps23
    go_wp2
    go_quiet (fail)
    go_wp2
    go_ret
    exact ⟨rfl, _, rfl⟩
  · go_enter Tryd.func23, Tryd.ntmps23
    go_wp2
    go_quiet (fail)
    go_wp2
    go_ret
    exact ⟨rfl, _, rfl⟩

theorem and_bit (n j : Nat) (hn : n < 18446744073709551616) : bits .and .u64 ((n : Int) / 2 ^ j) 1 = ((n / 2 ^ j % 2 : Nat) : Int) := by
  have hm : n / 2 ^ j < 18446744073709551616 := Nat.lt_of_le_of_lt (Nat.div_le_self _ _) hn
  have e : ((n : Int) / 2 ^ j) = ((n / 2 ^ j : Nat) : Int) := by simp
  rw [e, and_one_u64 _ (Int.natCast_nonneg _) (by omega)]
  simp

set_option maxRecDepth 100000 in
set_option maxHeartbeats 2000000 in
theorem rput_fits (bf : Nat) (v : Value) (most : Nat) (bs : List Bool) (n wd : Nat) (w : World) (h : FAt w bf v most bs) (hw : wd ≤ 64) (hn : n < 18446744073709551616) (hv : n < 2 ^ wd) (hf : bs.length + wd ≤ 8 * most) :
    Calls Tryd.prog 23 #[.pointer (some ⟨bf, 0, none⟩), .int .u64 n, .int .i64 wd] w fun e w' => e = .returned (.int .i64 0) ∧ ∃ v', FAt w' bf v' most (bs ++ bitsOf n wd) ∧ WStep bf v v' w w' := by
  have ht := value_not n wd hv
  have HN : Hid (n < 18446744073709551616) := hn
  obtain ⟨c0, c1, cf⟩ := cell_of_two h.blk
  obtain ⟨i0, hi, hz0, hz1, hz2⟩ := info_parts Tryd.info3
  have hle := h.le
  have hlim := h.lim
  have HA : Hid (FAt w bf v most bs) := h
  obtain ⟨ao, cap, rfl, _⟩ := h.form
  clear h hv hn
  by_cases h64 : wd < 64
  all_goals
    go_enter Tryd.func23, Tryd.ntmps23
    go_wp2
    go_quiet (fail)
    go_wp2
    go_loopw [7] (fun t wr => ∃ (k : Nat) (v1 : Value), k ≤ wd ∧ t = .int .i64 ((k : Int) - 1) ∧ FAt wr bf v1 most (bs ++ bitsOf (n / 2 ^ k) (wd - k)) ∧ WStep bf (.slice ao bs.length cap) v1 w wr) (fun t _ => (intOf t + 1).toNat)
    case atStart => exact ⟨wd, .slice ao bs.length cap, Nat.le_refl _, rfl, by rw [Nat.sub_self, bitsOf_zero, List.append_nil]; exact HA.out.drewN _, ⟨(Fr.refl _ _).drewN _, Or.inl rfl⟩⟩
    case round =>
      obtain ⟨k, v1, hk, rfl, hat, hstep⟩ := hrel
      by_cases hlt : 0 < k
      · have HNX : Hid (bs ++ bitsOf (n / 2 ^ (k - 1)) (wd - (k - 1)) = (bs ++ bitsOf (n / 2 ^ k) (wd - k)) ++ [(n / 2 ^ (k - 1)).testBit 0]) := by
          show _ = _
          rw [bits_next n k 1 wd (by omega) hk, List.append_assoc, one_bit]
        have hlen : (bs ++ bitsOf (n / 2 ^ k) (wd - k)).length = bs.length + (wd - k) := by simp [length_bitsOf]
        have hroom : (bs ++ bitsOf (n / 2 ^ k) (wd - k)).length + 1 ≤ 8 * most := by omega
        have HS : Hid (WStep bf (.slice ao bs.length cap) v1 w wr) := hstep
        clear hlen
        generalize bs ++ bitsOf (n / 2 ^ k) (wd - k) = cs at hat HNX hroom
        have HF : Hid (FAt wr bf v1 most cs) := hat
        obtain ⟨d0, d1, df⟩ := cell_of_two hat.blk
        have hown := hat.own
        clear hat hstep c0 c1 cf HA hle
        have hand := and_bit n (k - 1) HN.out
        have hm2 : n / 2 ^ (k - 1) % 2 < 2 := Nat.mod_lt _ (by omega)
        have HB := bit_num (n / 2 ^ (k - 1))
        have HBN : Hid (((n / 2 ^ (k - 1) % 2 : Nat) : Int) = (((n / 2 ^ (k - 1)).testBit 0).toNat : Int)) := HB.symm
        generalize n / 2 ^ (k - 1) % 2 = xb at hand hm2 HBN
        clear HB
        go_wp2_with (first | (at_builtin; refine wpList_append_row _ rfl _ _ 23 rfl 3 i0 (.int .i64 0) 1 8 Tryd.underlying23 hi hz0 hz1 hz2 rfl (by decide) _ _ _ rfl (hown.alloc _) ⟨wr.heap.size, 0, none⟩ 1 1 [.int .i64 (xb : Int)] rfl rfl (cell_one_new _ _ _) ?_ ?_ ?_ (by decide) ?_))
        · intro u hu; simp at hu; subst hu; rfl
        · unfold maxLen; omega
        · omega
        · intro g' cap' w1 hown' hgrow hrow' hc' hm'
          have R := HF.out.push (b := (n / 2 ^ (k - 1)).testBit 0) hown' hgrow (by rcases hrow' with e | e; exact Or.inl e; exact Or.inr e) HBN.out (by omega)
          have HR1 : Hid (FAt _ _ _ _ _) := R.1
          have HR2 : Hid (WStep _ _ _ _ _) := R.2
          have hblk : w1.heap[bf]? = some (.cells #[.int .i64 (most : Int), v1] 53 (0, 0)) := by
            rw [hgrow.block bf (by have := HF.out.lt; simp; omega) (fun e => HF.out.rowne e.symm), Below.heap_alloc _ _ _ HF.out.lt]; exact HF.out.blk
          obtain ⟨e0, e1, ef⟩ := cell_of_two hblk
          clear R hown' hgrow hrow' hblk hown d0 d1 df
          go_wp2
          go_roundw
          case rel => exact ⟨k - 1, _, by omega, congrArg (Value.int .i64) (by omega), by rw [HNX.out]; exact HR1.out, HS.out.trans HR2.out⟩
          case measure => simp [intOf]; omega
      · have hk0 : k = 0 := by omega
        subst hk0
        go_wp2
        go_ret
        refine ⟨rfl, v1, ?_, hstep⟩
        simpa using hat

end Go.Proofs.YtamonbkhpbdojaaDoor
