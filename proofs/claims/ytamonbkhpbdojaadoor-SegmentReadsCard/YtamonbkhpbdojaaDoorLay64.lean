/- 'lay' at words. -/
import Derived.Test.YtamonbkhpbdojaaDoorLay
namespace Go.Proofs.YtamonbkhpbdojaaDoor
set_option maxRecDepth 100000
open Go.RowKit

theorem fill64_d (x n j s u : Nat) (hx : x < 256) : bits .or .u8 (x : Int) ((n : Int) / 2 ^ j % 256 * 2 ^ s % 256 / 2 ^ u) = ((x ||| (n / 2 ^ j % 256 * 2 ^ s % 256 / 2 ^ u) : Nat) : Int) := by
  have := fill_num x (n / 2 ^ j % 256) s u hx (Nat.mod_lt _ (by omega))
  rw [Nat.mod_mod] at this
  have e : ((n : Int) / 2 ^ j % 256) = ((n / 2 ^ j % 256 : Nat) : Int) := by simp
  rw [e]
  exact this
theorem fill64_u (x n s u : Nat) (hx : x < 256) : bits .or .u8 (x : Int) ((n : Int) % 256 * 2 ^ s % 256 / 2 ^ u) = ((x ||| (n % 256 * 2 ^ s % 256 / 2 ^ u) : Nat) : Int) := by
  have := fill64_d x n 0 s u hx
  simpa using this
theorem fill64_0 (n s : Nat) : bits .or .u8 0 ((n : Int) % 256 * 2 ^ s % 256) = ((0 ||| (n % 256 * 2 ^ s % 256 / 2 ^ (0 : Nat)) : Nat) : Int) := by
  have := fill64_u 0 n s 0 (by omega)
  simpa using this
theorem fill64_8 (n j : Nat) : bits .or .u8 0 ((n : Int) / 2 ^ j % 256) = ((0 ||| (n / 2 ^ j % 256 * 2 ^ (8 - 8) % 256 / 2 ^ (0 : Nat)) : Nat) : Int) := by
  have := fill64_d 0 n j 0 0 (by omega)
  simpa using this

set_option maxHeartbeats 400000 in
theorem lay64_full (bw : Nat) (v : Value) (most : Nat) (bs : List Bool) (n wd : Nat) (w : World) (h : WAt w bw v most bs) (hw : wd ≤ 64) (hf : 8 * most < bs.length + wd) :
    Calls Tryd.prog 53 #[.pointer (some ⟨bw, 0, none⟩), .int .u64 n, .int .i64 wd] w fun e w' => e = .returned (.int .i64 13) ∧ ∃ q, w' = w.drewN q := by
  obtain ⟨c0, c1, c2, cf⟩ := cell_of_three h.blk
  have hle := h.le
  have hlim := h.lim
  go_enter Tryd.func53, Tryd.ntmps53
  go_wp2
  go_quiet (fail)
  go_wp2
  go_ret
  exact ⟨rfl, _, rfl⟩

set_option maxHeartbeats 1000000 in
theorem lay64_fits (bw : Nat) (v : Value) (most : Nat) (bs : List Bool) (n wd : Nat) (w : World) (h : WAt w bw v most bs) (hw : wd ≤ 64) (hf : bs.length + wd ≤ 8 * most) :
    Calls Tryd.prog 53 #[.pointer (some ⟨bw, 0, none⟩), .int .u64 n, .int .i64 wd] w fun e w' => e = .returned (.int .i64 0) ∧ ∃ v', WAt w' bw v' most (bs ++ bitsOf n wd) ∧ WStep bw v v' w w' := by
  obtain ⟨c0, c1, c2, cf⟩ := cell_of_three h.blk
  obtain ⟨i0, hi, hz0, hz1, hz2⟩ := info_parts Tryd.info5
  have hle := h.le
  have hlim := h.lim
  go_enter Tryd.func53, Tryd.ntmps53
  go_wp2
  go_quiet (fail)
  go_wp2
  go_loopw [2, 7, 8] (fun t _ _ wr => ∃ (k : Nat) (v1 : Value), k ≤ wd ∧ t = .int .i64 k ∧ WAt wr bw v1 most (bs ++ bitsOf (n / 2 ^ k) (wd - k)) ∧ WStep bw v v1 w wr) (fun t _ _ _ => (intOf t).toNat)
  case atStart => exact ⟨wd, v, Nat.le_refl _, rfl, by rw [Nat.sub_self, bitsOf_zero, List.append_nil]; exact h.drewN _, ⟨(Fr.refl _ _).drewN _, Or.inl rfl⟩⟩
  case round =>
    obtain ⟨k, v1, hk, rfl, hat, hstep⟩ := hrel
    have HN : Hid (∀ step, step ≤ k → bs ++ bitsOf (n / 2 ^ (k - step)) (wd - (k - step)) = (bs ++ bitsOf (n / 2 ^ k) (wd - k)) ++ bitsOf (n / 2 ^ (k - step)) step) := fun step hs => by rw [bits_next n k step wd hs hk, List.append_assoc]
    have hlen : (bs ++ bitsOf (n / 2 ^ k) (wd - k)).length = bs.length + (wd - k) := by simp [length_bitsOf]
    have hroom : (bs ++ bitsOf (n / 2 ^ k) (wd - k)).length + k ≤ 8 * most := by omega
    by_cases hlt : 0 < k
    · clear hlen
      generalize hcs : bs ++ bitsOf (n / 2 ^ k) (wd - k) = cs at hat HN hroom
      clear hcs c0 c1 c2 cf h hle
      have HS : Hid (WStep bw v v1 w wr) := hstep
      have HA : Hid (WAt wr bw v1 most cs) := hat
      obtain ⟨d0, d1, d2, df⟩ := cell_of_three hat.blk
      clear hstep d0
      by_cases hu : cs.length % 8 = 0
      · have hu' : ((cs.length : Int) % 8 == 0) = true := by simp; omega
        have hown := hat.own
        clear hat
        go_wp2_with (first | (at_builtin; refine wpList_append_row _ rfl _ _ 25 rfl 5 i0 (.int .u8 0) 1 1 Tryd.underlying25 hi hz0 hz1 hz2 rfl (by decide) _ _ _ rfl (hown.alloc _) ⟨wr.heap.size, 0, none⟩ 1 1 [.int .u8 0] rfl rfl (cell_one_new _ _ _) ?c2 ?c3 ?c4 (by decide) ?_))
        case c2 => intro u hu; simp at hu; subst hu; rfl
        case c3 => unfold maxLen; omega
        case c4 => omega
        · intro g' cap' w1 hown' hgrow hrow' hc' hm'
          have hbwlt := HA.out.lt
          have hgne : g' ≠ bw := by
            rcases hrow' with e | e
            · intro e2; exact HA.out.rowne (e.trans (by rw [e2]))
            · have e' : wr.heap.size + 1 ≤ g' := e
              omega
          have hblk : w1.heap[bw]? = some (.cells #[.int .i64 (8 * (most : Int)), .int .i64 (cs.length : Int), v1] 93 (0, 0)) := by
            rw [hgrow.block bw (by simp; omega) (fun e => HA.out.rowne e.symm), Below.heap_alloc _ _ _ hbwlt]; exact HA.out.blk
          obtain ⟨e0, e1, e2, ef⟩ := cell_of_three hblk
          have hcx : w1.cell? ⟨g', (cs.length + 7) / 8, none⟩ = some (.int .u8 0) := by
            rw [hown'.cellAt ((cs.length + 7) / 8) (by omega), List.getElem?_append_right (by rw [length_byteCells, length_pack]; omega), length_byteCells, length_pack, Nat.sub_self]; rfl
          have hfx := hown'.frozenAt ((cs.length + 7) / 8)
          have HG : Hid ((wr.alloc (.cells #[.int .u8 0] 5)).grownBy w1 v1.ownBlock) := hgrow
          have HO : Hid (w1.ownsRow 0 5 1 (.slice (some ⟨g', 0, none⟩) ((cs.length + 7) / 8 + 1) cap') ((cs.length + 7) / 8 + 1) (byteCells (pack cs) ++ [.int .u8 0])) := hown'
          have HR : Hid (v1.ownBlock = some g' ∨ wr.heap.size < g') := by
            rcases hrow' with e | e
            · exact Or.inl e
            · exact Or.inr e
          clear hgrow hown' hrow' hown d1 d2 df hblk e0
          unfold maxLen at hm'
          by_cases hmn : k ≤ 8
          · go_wp2
            go_region
            go_wp2
            have R := HA.out.begun (m := n / 2 ^ (k - k)) (step := k) (X := bits .or .u8 0 ((n : Int) % 256 * 2 ^ (8 - k) % 256)) (S := (cs.length : Int) + (k : Int)) HO.out HG.out HR.out (by omega) hlt hu (by omega) (by rw [div_self_pow]; exact fill64_0 n (8 - k)) (by push_cast; rfl)
            go_roundw
            case rel => exact ⟨k - k, _, by omega, by rw [Nat.sub_self]; rfl, by rw [HN.out k (Nat.le_refl _)]; exact R.1.drew, (HS.out.trans R.2).drew⟩
            case measure => simp [intOf]; omega
          · go_wp2
            go_region
            go_wp2
            have R := HA.out.begun (m := n / 2 ^ (k - 8)) (step := 8) (X := bits .or .u8 0 ((n : Int) / 2 ^ (k - 8) % 256)) (S := (cs.length : Int) + (8 - (cs.length : Int) % 8)) HO.out HG.out HR.out (by omega) (by omega) hu (by omega) (fill64_8 n (k - 8)) (by omega)
            go_roundw
            case rel => exact ⟨k - 8, _, by omega, congrArg (Value.int .i64) (by omega), by rw [HN.out 8 (by omega)]; exact R.1.drew, (HS.out.trans R.2).drew⟩
            case measure => simp [intOf]; omega
      · have hu' : ((cs.length : Int) % 8 == 0) = false := by simp; omega
        obtain ⟨g, cap, rfl, hcap, hmx, hgne⟩ := hat.form (by omega)
        have hcx : wr.cell? ⟨g, (cs.length + 7) / 8 - 1, none⟩ = some (.int .u8 (byteAt cs (cs.length / 8))) := by
          rw [hat.own.cellAt ((cs.length + 7) / 8 - 1) (by omega), byteCells_get, pack_get _ _ (by omega), show (cs.length + 7) / 8 - 1 = cs.length / 8 from by omega]; rfl
        have hfx := hat.own.frozenAt ((cs.length + 7) / 8 - 1)
        have hblt := byteAt_lt cs (cs.length / 8)
        clear hat
        unfold maxLen at hmx
        by_cases hmn : k ≤ 8 - cs.length % 8
        · go_wp2
          go_region
          go_wp2
          have R := HA.out.filled (m := n / 2 ^ (k - k)) (step := k) (X := bits .or .u8 (byteAt cs (cs.length / 8) : Int) ((n : Int) % 256 * 2 ^ (8 - k) % 256 / 2 ^ (cs.length % 8))) (S := (cs.length : Int) + (k : Int)) (by omega) hlt hu (by omega) (by rw [div_self_pow]; exact fill64_u _ n _ _ hblt) (by push_cast; rfl)
          go_roundw
          case rel => exact ⟨k - k, _, by omega, by rw [Nat.sub_self]; rfl, by rw [HN.out k (Nat.le_refl _)]; exact R.1.drew, (HS.out.trans R.2).drew⟩
          case measure => simp [intOf]; omega
        · go_wp2
          go_region
          go_wp2
          have R := HA.out.filled (m := n / 2 ^ (k - (8 - cs.length % 8))) (step := 8 - cs.length % 8) (X := bits .or .u8 (byteAt cs (cs.length / 8) : Int) ((n : Int) / 2 ^ (k - (8 - cs.length % 8)) % 256 * 2 ^ (8 - (8 - cs.length % 8)) % 256 / 2 ^ (cs.length % 8))) (S := (cs.length : Int) + (8 - (cs.length : Int) % 8)) (by omega) (by omega) hu (by omega) (fill64_d _ n _ _ _ hblt) (by omega)
          go_roundw
          case rel => exact ⟨k - (8 - cs.length % 8), _, by omega, congrArg (Value.int .i64) (by omega), by rw [HN.out (8 - cs.length % 8) (by omega)]; exact R.1.drew, (HS.out.trans R.2).drew⟩
          case measure => simp [intOf]; omega
    · have hk0 : k = 0 := by omega
      subst hk0
      go_wp2
      go_ret
      refine ⟨rfl, v1, ?_, hstep⟩
      simpa using hat

end Go.Proofs.YtamonbkhpbdojaaDoor
