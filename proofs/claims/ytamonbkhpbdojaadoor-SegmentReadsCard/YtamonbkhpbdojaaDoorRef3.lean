/- The plain writer's 'Align' and 'Bytes'; 'Over'. -/
import Derived.Test.YtamonbkhpbdojaaDoorRef2
namespace Go.Proofs.YtamonbkhpbdojaaDoor
set_option maxRecDepth 100000
open Go.RowKit

/-- How many bits the plain writer at b has. -/
def lenF (w : World) (b : Nat) : Nat := match w.cell? ⟨b, 1, none⟩ with
  | some (.slice _ n _) => n
  | _ => 0
theorem lenF_of {w : World} {bf : Nat} {v : Value} {most : Nat} {bs : List Bool} (h : FAt w bf v most bs) : lenF w bf = bs.length := by
  obtain ⟨c0, c1, cf⟩ := cell_of_two h.blk
  obtain ⟨ao, cap, rfl, _⟩ := h.form
  unfold lenF
  rw [c1]

def packN (n : Nat) (cs : List Bool) : List Nat := (List.range n).map (byteAt cs)
theorem length_packN (n : Nat) (cs : List Bool) : (packN n cs).length = n := by simp [packN]
theorem packN_get (n : Nat) (cs : List Bool) (j : Nat) (h : j < n) : (packN n cs)[j]? = some (byteAt cs j) := by simp [packN, h]

theorem byteF_congr (f g : Nat → Bool) (h : ∀ k, k < 8 → f k = g k) : byteF f = byteF g := by
  simp only [byteF]
  rw [h 0 (by omega), h 1 (by omega), h 2 (by omega), h 3 (by omega), h 4 (by omega), h 5 (by omega), h 6 (by omega), h 7 (by omega)]
theorem byteF_put (f : Nat → Bool) (r : Nat) (b : Bool) (hr : r < 8) (h : f r = false) : byteF (fun k => if k = r then b else f k) = byteF f + b.toNat * 2 ^ (7 - r) := by
  have hc : r = 0 ∨ r = 1 ∨ r = 2 ∨ r = 3 ∨ r = 4 ∨ r = 5 ∨ r = 6 ∨ r = 7 := by omega
  rcases hc with rfl | rfl | rfl | rfl | rfl | rfl | rfl | rfl <;> (simp [byteF, h]; try omega)
theorem byteAt_snoc (cs : List Bool) (b : Bool) : byteAt (cs ++ [b]) (cs.length / 8) = byteAt cs (cs.length / 8) + b.toNat * 2 ^ (7 - cs.length % 8) := by
  have h1 : ∀ k, k < 8 → bit (cs ++ [b]) (8 * (cs.length / 8) + k) = if k = cs.length % 8 then b else bit cs (8 * (cs.length / 8) + k) := by
    intro k hk
    rw [bit_append]
    by_cases e : k = cs.length % 8
    · rw [if_pos e, if_neg (by omega), show 8 * (cs.length / 8) + k - cs.length = 0 from by omega]; rfl
    · rw [if_neg e]
      split
      · rfl
      · rw [bit_past cs _ (by omega), bit_past _ _ (by simp; omega)]
  unfold byteAt
  rw [byteF_congr _ _ h1]
  exact byteF_put (fun k => bit cs (8 * (cs.length / 8) + k)) (cs.length % 8) b (by omega) (bit_past _ _ (by omega))

theorem packN_snoc (n : Nat) (cs : List Bool) (b : Bool) (h : cs.length / 8 < n) : packN n (cs ++ [b]) = (packN n cs).set (cs.length / 8) (byteAt cs (cs.length / 8) + b.toNat * 2 ^ (7 - cs.length % 8)) := by
  rw [← byteAt_snoc]
  apply List.ext_getElem?
  intro j
  rw [List.getElem?_set]
  by_cases hj : j < n
  · rw [packN_get _ _ _ hj]
    split
    · rename_i e
      rw [if_pos (by rw [length_packN]; omega), e]
    · rw [packN_get _ _ _ hj]
      by_cases hlt : j < cs.length / 8
      · rw [byte_keep _ _ _ (by omega)]
      · rw [byte_past _ _ (by simp; omega), byte_past _ _ (by omega)]
  · rw [List.getElem?_eq_none (by rw [length_packN]; omega), if_neg (by omega), List.getElem?_eq_none (by rw [length_packN]; omega)]

theorem packN_pack (bs : List Bool) : packN ((bs.length + 7) / 8) bs = pack bs := rfl
theorem packN_nil (n : Nat) : packN n [] = List.replicate n 0 := by
  apply List.ext_getElem?
  intro j
  by_cases hj : j < n
  · rw [packN_get _ _ _ hj, byte_past _ _ (by simp)]; simp [hj]
  · rw [List.getElem?_eq_none (by rw [length_packN]; omega), List.getElem?_eq_none (by simp; omega)]
theorem take_bit (bs : List Bool) (k : Nat) (h : k < bs.length) : bs.take (k + 1) = bs.take k ++ [bit bs k] := by
  rw [List.take_succ_eq_append_getElem h]
  unfold bit
  rw [List.getElem?_eq_getElem h]
  rfl

set_option maxRecDepth 100000 in
set_option maxHeartbeats 2000000 in
theorem rbytes_any (bf : Nat) (v : Value) (most : Nat) (bs : List Bool) (w : World) (h : FAt w bf v most bs) :
    Calls Tryd.prog 25 #[.pointer (some ⟨bf, 0, none⟩)] w fun e w' => ∃ rv, e = .returned rv ∧ BytesAt w' w.heap.size rv (pack bs) ∧ Below w.heap.size w w' := by
  obtain ⟨i0, hi, hz0, hz1, hz2⟩ := info_parts Tryd.info5
  obtain ⟨c0, c1, cf⟩ := cell_of_two h.blk
  have hle := h.le
  have hlim := h.lim
  have HA : Hid (FAt w bf v most bs) := h
  obtain ⟨ao, cap, rfl, hao⟩ := h.form
  have HAO : Hid (0 < bs.length → ∃ g, ao = some ⟨g, 0, none⟩) := hao
  clear h hao
  go_enter Tryd.func25, Tryd.ntmps25
  go_wp2_with (first | (at_make; refine wpList_make_full _ rfl _ _ 25 rfl w.heap.size 5 i0 (.int .u8 0) 1 Tryd.underlying25 hi hz0 hz1 .i64 .i64 _ _ ((bs.length + 7) / 8) rfl rfl ?_ ?_ ?_ ?_ ?_ ?_))
  · omega
  · omega
  · rw [hz2]; omega
  · unfold maxLen; omega
  · exact Nat.le_refl _
  · intro w1 hown1 hgrow1
    have HB1 : Hid (Below w.heap.size w w1) := (Below.refl _ _).grown hgrow1 (Nat.le_refl _) (fun k hk => by cases hk)
    have HO1 : Hid (w1.ownsRow w.heap.size 5 1 (.slice (some ⟨w.heap.size, 0, none⟩) ((bs.length + 7) / 8) ((bs.length + 7) / 8)) ((bs.length + 7) / 8) (byteCells (packN ((bs.length + 7) / 8) (bs.take 0)))) := by
      rw [List.take_zero, packN_nil]
      have e : byteCells (List.replicate ((bs.length + 7) / 8) 0) = (madeCells (Value.int .u8 0).cells ((bs.length + 7) / 8 * 1)).toList := by
        rw [Nat.mul_one]
        show _ = (madeCells #[Value.int .u8 0] ((bs.length + 7) / 8)).toList
        rw [toList_madeCells_one]; simp [byteCells]
      rw [e]
      show w1.ownsRow _ _ _ _ _ _
      rw [Nat.mul_one]
      exact hown1
    have HF1 : Hid (FAt w1 bf (.slice ao bs.length cap) most bs) := HA.out.kept (Fr.of_below HB1.out (fun _ => False)) (fun hh => hh) (fun _ _ hh => hh)
    have HBF : Hid (bf < w.heap.size ∧ ∀ k, (Value.slice ao bs.length cap).ownBlock = some k → k < w.heap.size) := ⟨HA.out.lt, HA.out.rowlt⟩
    clear hown1 hgrow1 c0 c1 cf HA
    obtain ⟨N, hN⟩ : ∃ N, N = (bs.length + 7) / 8 := ⟨_, rfl⟩
    rw [← hN] at HO1 ⊢
    have HNE : Hid (N = (bs.length + 7) / 8) := hN
    obtain ⟨B, hB⟩ : ∃ B, B = w.heap.size := ⟨_, rfl⟩
    rw [← hB] at HO1 HB1 HBF ⊢
    have HBE : Hid (B = w.heap.size) := hB
    have hNl : N ≤ 67108864 := by omega
    clear hN hB
    go_wp2_with fail
    go_loopw [4] (fun i wr => ∃ k : Nat, k ≤ bs.length ∧ i = .int .i64 k ∧ wr.ownsRow B 5 1 (.slice (some ⟨B, 0, none⟩) N N) N (byteCells (packN N (bs.take k))) ∧ FAt wr bf (.slice ao bs.length cap) most bs ∧ Below B w wr) (fun i _ => bs.length - (intOf i).toNat)
    case atStart => exact ⟨0, Nat.zero_le _, rfl, HO1.out, HF1.out, HB1.out⟩
    case round =>
      obtain ⟨k, hk, rfl, hown, hat, hbel⟩ := hrel
      have HO : Hid (wr.ownsRow B 5 1 (.slice (some ⟨B, 0, none⟩) N N) N (byteCells (packN N (bs.take k)))) := hown
      have HF : Hid (FAt wr bf (.slice ao bs.length cap) most bs) := hat
      have HB2 : Hid (Below B w wr) := hbel
      obtain ⟨d0, d1, df⟩ := cell_of_two hat.blk
      by_cases hlt : k < bs.length
      · obtain ⟨g, rfl⟩ := HAO.out (by omega)
        have hkN : k / 8 < N := by have := HNE.out; omega
        have hcx : wr.cell? ⟨B, k / 8, none⟩ = some (.int .u8 (byteAt (bs.take k) (k / 8))) := by
          rw [hown.cellAt _ (by omega), byteCells_get, packN_get _ _ _ hkN]; rfl
        have hfx := hown.frozenAt (k / 8)
        have hcb : wr.cell? ⟨g, k, none⟩ = some (.int .i64 ((bit bs k).toNat : Int)) := by
          rw [hat.own.cellAt k (by omega), bitCells_get bs k hlt]
        have hbl : (bit bs k).toNat ≤ 1 := Bool.toNat_le _
        have hlk : (bs.take k).length = k := by rw [List.length_take]; omega
        have HPN : Hid (packN N (bs.take (k + 1)) = (packN N (bs.take k)).set (k / 8) (byteAt (bs.take k) (k / 8) + (bit bs k).toNat * 2 ^ (7 - k % 8))) := by
          have := packN_snoc N (bs.take k) (bit bs k) (by rw [hlk]; exact hkN)
          rw [hlk] at this
          show _ = _
          rw [take_bit bs k hlt]; exact this
        have hsum : byteAt (bs.take k) (k / 8) + (bit bs k).toNat * 2 ^ (7 - k % 8) < 256 := by
          have h1 := byteAt_snoc (bs.take k) (bit bs k)
          rw [hlk] at h1
          rw [← h1]; exact byteAt_lt _ _
        have HGB : Hid (g ≠ B ∧ bf ≠ B) := ⟨by have := HBF.out.2 g rfl; omega, by have := HBF.out.1; omega⟩
        generalize byteAt (bs.take k) (k / 8) = xx at hcx HPN hsum
        generalize (bit bs k).toNat = bb at hcb HPN hsum hbl
        clear hown hat hbel hlk
        go_wp2_with fail
        go_region
        go_wp2_with fail
        have HX : (((xx : Int) + (bb : Int) * 2 ^ (7 - k % 8)) % 256) = ((xx + bb * 2 ^ (7 - k % 8) : Nat) : Int) := by
          have e : ((xx : Int) + (bb : Int) * 2 ^ (7 - k % 8)) = ((xx + bb * 2 ^ (7 - k % 8) : Nat) : Int) := by simp
          rw [e]; omega
        go_roundw
        case rel =>
          refine ⟨k + 1, by omega, congrArg (Value.int .i64) (by omega), ?_, ?_, ?_⟩
          · rw [HPN.out, ← byteCells_set, HX]
            exact row_kept (HO.out.stored (k / 8) (.int .u8 ((xx + bb * 2 ^ (7 - k % 8) : Nat) : Int))).1 ((Fr.refl (fun _ => False) _).drew) (fun _ _ hh => hh)
          · refine HF.out.kept (S := fun j => j = B) ((Fr.one _ _ _ _).drew) (fun e => HGB.out.2 e) (fun j hj e => ?_)
            simp only [Value.ownBlock, Option.some.injEq] at hj
            exact HGB.out.1 (hj.trans e)
          · exact (HB2.out.setCell (Nat.le_refl _) _).drew
        case measure => simp [intOf]; omega
      · have hkl : k = bs.length := by omega
        have HFN : Hid (BytesAt wr B (.slice (some ⟨B, 0, none⟩) N N) (pack bs)) := by
          unfold BytesAt
          rw [length_pack, ← HNE.out, ← packN_pack, ← HNE.out]
          have := HO.out
          rw [List.take_of_length_le (by omega)] at this
          exact this
        clear hown hat hbel
        obtain rfl := hkl
        go_wp2_with fail
        go_ret
        refine ⟨_, rfl, ?_, ?_⟩
        · rw [← HBE.out]; exact HFN.out
        · rw [← HBE.out]; exact HB2.out

end Go.Proofs.YtamonbkhpbdojaaDoor
