/- The plain writer's 'Groups', 'Var', 'Align', 'Bytes'. -/
import Derived.Test.YthfimeaajboihaaRef
namespace Go.Proofs.Ythfimeaajboihaa
open Go.RowKit

set_option maxRecDepth 100000 in
set_option maxHeartbeats 2000000 in
theorem groups_any (n : Nat) (w : World) (hn : n < 18446744073709551616) :
    Calls Try.prog 33 #[.int .u64 n] w fun e w' => ∃ rv, e = .returned rv ∧ BytesAt w' w.heap.size rv (groups n) ∧ Below w.heap.size w w' := by
  have HN : Hid (n < 18446744073709551616) := hn
  obtain ⟨i0, hi, hz0, hz1, hz2⟩ := info_parts Try.info5
  clear hn
  go_enter Try.func33, Try.ntmps33
  go_wp2
  go_loopw [0, 3] (fun t v wr => ∃ (m : Nat) (pre : List Nat), t = .int .u64 m ∧ Hid (m < 18446744073709551616) ∧ Hid (groups n = pre ++ groups m) ∧ wr.ownsRow w.heap.size 5 1 v pre.length (byteCells pre) ∧ Below w.heap.size w wr) (fun t _ _ => (intOf t).toNat)
  case atStart => exact ⟨n, [], rfl, HN, rfl, World.ownsRow_nil _ _ _ _, Below.refl _ _⟩
  case round =>
    obtain ⟨m, pre, rfl, HM, HE, hown, hbel⟩ := hrel
    have HO : Hid (wr.ownsRow w.heap.size 5 1 _ pre.length (byteCells pre)) := hown
    have HB : Hid (Below w.heap.size w wr) := hbel
    have hs := hbel.size
    have hpl : pre.length ≤ 10 := by
      have h1 := length_groups_u64 n HN.out
      rw [HE.out, List.length_append] at h1; omega
    clear hown hbel
    by_cases hlt : 128 ≤ m
    · obtain ⟨m2, hm2⟩ : ∃ m2, m2 = m / 128 := ⟨_, rfl⟩
      have hwr : IntKind.u64.wrap ((m : Int) / 128) = (m2 : Int) := by
        rw [show ((m : Int) / 128) = ((m / 128 : Nat) : Int) from by simp, hm2]; exact wrapu64_nat _ (by have := HM.out; omega)
      have HM2 : Hid (m2 = m / 128) := hm2
      clear hm2
      go_wp2_with (first | (at_builtin; refine wpList_append_own _ rfl _ _ 39 rfl w.heap.size 5 i0 (.int .u8 0) 1 1 Try.underlying39 hi hz0 hz1 hz2 rfl (by decide) _ _ _ rfl (HO.out.alloc _) ⟨wr.heap.size, 0, none⟩ 1 1 _ rfl rfl (cell_one_new _ _ _) ?_ ?_ ?_ ?_ ?_))
      · intro u hu; simp at hu; subst hu; rfl
      · unfold maxLen; omega
      · omega
      · simp; omega
      · intro v' w1 hown' hgrow hnn
        have HO2 : Hid (w1.ownsRow w.heap.size 5 1 v' (pre ++ [m % 128 + 128]).length (byteCells (pre ++ [m % 128 + 128]))) := by
          rw [List.length_append, byteCells_append]
          have e : byteCells [m % 128 + 128] = [Value.int .u8 ((m : Int) % 128 + 128)] := by simp [byteCells]
          rw [e]; exact hown'
        have HB2 : Hid (Below w.heap.size w w1) := (HB.out.alloc hs _).grown hgrow (by simp; omega) (fun k hk => (HO.out.lt k hk).1)
        clear hown' hgrow hnn
        go_wp2
        go_roundw
        case rel => exact ⟨m2, pre ++ [m % 128 + 128], rfl, by rw [HM2.out]; exact Nat.lt_of_le_of_lt (Nat.div_le_self _ _) HM.out, by show _ = _; rw [HE.out, groups_more m hlt, List.append_assoc, HM2.out]; rfl, HO2.out, HB2.out⟩
        case measure => have := HM2.out; simp [intOf]; omega
    · go_wp2_with (first | (at_builtin; refine wpList_append_own _ rfl _ _ 39 rfl w.heap.size 5 i0 (.int .u8 0) 1 1 Try.underlying39 hi hz0 hz1 hz2 rfl (by decide) _ _ _ rfl (HO.out.alloc _) ⟨wr.heap.size, 0, none⟩ 1 1 _ rfl rfl (cell_one_new _ _ _) ?_ ?_ ?_ ?_ ?_))
      · intro u hu; simp at hu; subst hu; rfl
      · unfold maxLen; omega
      · omega
      · simp; omega
      · intro v' w1 hown' hgrow hnn
        have HO2 : Hid (BytesAt w1 w.heap.size v' (groups n)) := by
          unfold BytesAt
          rw [HE.out, groups_small m (by omega), List.length_append, byteCells_append]
          exact hown'
        have HB2 : Hid (Below w.heap.size w w1) := (HB.out.alloc hs _).grown hgrow (by simp; omega) (fun k hk => (HO.out.lt k hk).1)
        clear hown' hgrow hnn
        go_wp2
        go_ret
        exact ⟨v', rfl, HO2.out, HB2.out⟩

theorem row_apart {w : World} {b e n b' e' s' n' : Nat} {v v' : Value} {xs xs' : List Value} (h1 : w.ownsRow b e 1 v n xs) (h2 : w.ownsRow b' e' s' v' n' xs') (he : e ≠ e') : ∀ k, v.ownBlock = some k → v'.ownBlock ≠ some k := by
  intro k hk hk'
  rcases h1.2 with ⟨rfl, _⟩ | ⟨g, cap, cur, rfl, _, hg, _⟩
  · simp [Value.ownBlock] at hk
  · rcases h2.2 with ⟨rfl, _⟩ | ⟨g', cap', cur', rfl, _, hg', _⟩
    · simp [Value.ownBlock] at hk'
    · simp [Value.ownBlock] at hk hk'
      subst hk
      subst hk'
      rw [hg] at hg'
      simp at hg'
      exact he hg'.2
theorem row_off {w : World} {b e s n : Nat} {v : Value} {xs : List Value} {bf : Nat} {c : Array Value} {t : TypeId} {z : Nat × Nat} (h1 : w.ownsRow b e s v n xs) (hb : w.heap[bf]? = some (.cells c t z)) (he : e ≠ t) : v.ownBlock ≠ some bf := by
  intro hk
  rcases h1.2 with ⟨rfl, _⟩ | ⟨g, cap, cur, rfl, _, hg, _⟩
  · simp [Value.ownBlock] at hk
  · simp [Value.ownBlock] at hk
    subst hk
    rw [hg] at hb
    simp at hb
    exact he hb.2.1

theorem rput_fits' (bf : Nat) (v : Value) (most : Nat) (bs : List Bool) (x y : Int) (n wd : Nat) (w : World) (hx : x = n) (hy : y = wd) (h : FAt w bf v most bs) (hw : wd ≤ 64) (hn : n < 18446744073709551616) (hv : n < 2 ^ wd) (hf : bs.length + wd ≤ 8 * most) :
    Calls Try.prog 12 #[.pointer (some ⟨bf, 0, none⟩), .int .u64 x, .int .i64 y] w fun e w' => e = .returned (.int .i64 0) ∧ ∃ v', FAt w' bf v' most (bs ++ bitsOf n wd) ∧ WStep bf v v' w w' := by
  subst hx; subst hy; exact rput_fits bf v most bs n wd w h hw hn hv hf

theorem flat_take (l : List Nat) (j : Nat) (h : j < l.length) : flat (l.take (j + 1)) = flat (l.take j) ++ bitsOf (l[j]?.getD 0) 8 := by
  rw [List.take_succ_eq_append_getElem h, flat_append, List.getElem?_eq_getElem h]
  simp [flat]

set_option maxRecDepth 100000 in
set_option maxHeartbeats 2000000 in
theorem rvarw_full (bf : Nat) (v : Value) (most : Nat) (bs : List Bool) (n : Nat) (w : World) (h : FAt w bf v most bs) (hn : n < 18446744073709551616) (hf : 8 * most < bs.length + (varBits n).length) :
    Calls Try.prog 14 #[.pointer (some ⟨bf, 0, none⟩), .int .u64 n] w fun e w' => e = .returned (.int .i64 13) ∧ FAt w' bf v most bs ∧ Fr (fun _ => False) w w' := by
  have HN : Hid (n < 18446744073709551616) := hn
  have HA : Hid (FAt w bf v most bs) := h
  have hle := h.le
  have hlim := h.lim
  have hL10 := length_groups_u64 n hn
  have hfl : 8 * most < bs.length + 8 * (groups n).length := by rw [length_varBits] at hf; exact hf
  have hLp : 0 < (groups n).length := by rw [len_cnt]; omega
  clear hn hf h
  go_enter Try.func14, Try.ntmps14
  go_wp2_with fail
  refine (groups_any n _ HN.out).mono ?_
  rintro e w1 ⟨rv, rfl, hrow, hbel⟩
  have HA1 := HA.out.kept (Fr.of_below hbel (fun _ => False)) (fun hh => hh) (fun _ _ hh => hh)
  have HAH : Hid (FAt w1 bf v most bs) := HA1
  have HF1 : Hid (Fr (fun _ => False) w w1) := Fr.of_below hbel _
  obtain ⟨g, rc, hv, _, hgc, hgm⟩ := row_form hrow hLp
  rw [hv]
  obtain ⟨c0, c1, cf⟩ := cell_of_two HA1.blk
  obtain ⟨ao, cap, rfl, _⟩ := HA1.form
  clear hrow hbel hv HA1 HA
  generalize (groups n).length = L at *
  go_wp2_with fail
  go_quiet (fail)
  go_wp2_with fail
  go_ret
  exact ⟨rfl, HAH.out.drewN _, HF1.out.drewN _⟩

set_option maxRecDepth 100000 in
set_option maxHeartbeats 4000000 in
theorem rvarw_fits (bf : Nat) (v : Value) (most : Nat) (bs : List Bool) (n : Nat) (w : World) (h : FAt w bf v most bs) (hn : n < 18446744073709551616) (hf : bs.length + (varBits n).length ≤ 8 * most) :
    Calls Try.prog 14 #[.pointer (some ⟨bf, 0, none⟩), .int .u64 n] w fun e w' => e = .returned (.int .i64 0) ∧ ∃ v', FAt w' bf v' most (bs ++ varBits n) ∧ WStep bf v v' w w' := by
  have HN : Hid (n < 18446744073709551616) := hn
  have HA : Hid (FAt w bf v most bs) := h
  have hle := h.le
  have hlim := h.lim
  have hL10 := length_groups_u64 n hn
  have hfl : bs.length + 8 * (groups n).length ≤ 8 * most := by rw [length_varBits] at hf; exact hf
  have hLp : 0 < (groups n).length := by rw [len_cnt]; omega
  clear hn hf h
  go_enter Try.func14, Try.ntmps14
  go_wp2_with fail
  refine (groups_any n _ HN.out).mono ?_
  rintro e w1 ⟨rv, rfl, hrow, hbel⟩
  have HA1 := HA.out.kept (Fr.of_below hbel (fun _ => False)) (fun hh => hh) (fun _ _ hh => hh)
  have HAH : Hid (FAt w1 bf v most bs) := HA1
  have HF1 : Hid (Fr (fun _ => False) w w1) := Fr.of_below hbel _
  obtain ⟨g, rc, hv, _, hgc, hgm⟩ := row_form hrow hLp
  rw [hv] at hrow ⊢
  have HRW : Hid (w1.ownsRow 0 5 1 (.slice (some ⟨g, 0, none⟩) (groups n).length rc) (groups n).length (byteCells (groups n))) := ownsRow_base hrow (fun _ _ => Nat.zero_le _)
  obtain ⟨c0, c1, cf⟩ := cell_of_two HA1.blk
  obtain ⟨ao, cap, rfl, _⟩ := HA1.form
  clear hrow hbel hv HA1 HA
  obtain ⟨L, hLe⟩ : ∃ L, L = (groups n).length := ⟨_, rfl⟩
  rw [← hLe] at hfl hLp hL10 HRW hgc ⊢
  have HLE : Hid (L = (groups n).length) := hLe
  clear hLe
  unfold maxLen at hgm
  go_wp2_with fail
  go_quiet (fail)
  go_wp2_with fail
  go_loopw [6] (fun i wr => ∃ (j : Nat) (v1 : Value), j ≤ L ∧ i = .int .i64 j ∧ FAt wr bf v1 most (bs ++ flat ((groups n).take j)) ∧ WStep bf (.slice ao bs.length cap) v1 w wr ∧ wr.ownsRow 0 5 1 (.slice (some ⟨g, 0, none⟩) L rc) L (byteCells (groups n))) (fun i _ => L - (intOf i).toNat)
  case atStart => exact ⟨0, .slice ao bs.length cap, Nat.zero_le _, rfl, by rw [List.take_zero, flat_nil, List.append_nil]; exact HAH.out.drewN _, ⟨(HF1.out.mono (fun _ _ hh => hh.elim)).drewN _, Or.inl rfl⟩, row_kept HRW.out ((Fr.refl (fun _ => False) _).drewN _) (fun _ _ hh => hh)⟩
  case round =>
    obtain ⟨j, v1, hj, rfl, hat, hst, hrw⟩ := hrel
    have HAT : Hid (FAt wr bf v1 most (bs ++ flat ((groups n).take j))) := hat
    have HST : Hid (WStep bf (.slice ao bs.length cap) v1 w wr) := hst
    have HRO : Hid (wr.ownsRow 0 5 1 (.slice (some ⟨g, 0, none⟩) L rc) L (byteCells (groups n))) := hrw
    by_cases hlt : j < L
    · have hcx : wr.cell? ⟨g, j, none⟩ = some (.int .u8 ((groups n)[j]?.getD 0)) := by
        rw [hrw.cellAt j (by omega), byteCells_get, List.getElem?_eq_getElem (by have := HLE.out; omega)]; rfl
      have hgl : (groups n)[j]?.getD 0 < 256 := by
        rw [List.getElem?_eq_getElem (by have := HLE.out; omega)]; exact groups_lt_u64 n HN.out _ (List.getElem_mem _)
      have HNX : Hid (bs ++ flat ((groups n).take (j + 1)) = (bs ++ flat ((groups n).take j)) ++ bitsOf ((groups n)[j]?.getD 0) 8) := by
        show _ = _
        rw [flat_take _ _ (by have := HLE.out; omega), List.append_assoc]
      have hlen : (bs ++ flat ((groups n).take j)).length = bs.length + 8 * j := by
        rw [List.length_append, flat_length, List.length_take]; have := HLE.out; omega
      have HLN : Hid ((bs ++ flat ((groups n).take j)).length = bs.length + 8 * j) := hlen
      clear hat hst hrw hlen
      generalize (groups n)[j]?.getD 0 = gj at hcx hgl HNX
      generalize bs ++ flat ((groups n).take j) = cs at HAT HNX HLN
      go_wp2_with fail
      refine (rput_fits' bf v1 most cs _ _ gj 8 _ (by omega) rfl HAT.out (by omega) (by omega) (by omega) (by rw [HLN.out]; omega)).mono ?_
      rintro e w2 ⟨rfl, v2, hat2, hst2⟩
      have HA2 : Hid (FAt w2 bf v2 most (bs ++ flat ((groups n).take (j + 1)))) := by rw [HNX.out]; exact hat2
      have HS2 : Hid (WStep bf (.slice ao bs.length cap) v2 w w2) := HST.out.trans hst2
      have HR2 : Hid (w2.ownsRow 0 5 1 (.slice (some ⟨g, 0, none⟩) L rc) L (byteCells (groups n))) := row_kept HRO.out hst2.fr (fun k hk hh => by
        rcases hh with e | e
        · exact row_off HRO.out HAT.out.blk (by omega) (by rw [hk, e])
        · exact row_apart HRO.out HAT.out.own (by omega) k hk e)
      clear hat2 hst2 hcx
      go_wp2_with fail
      go_roundw
      case rel => exact ⟨j + 1, v2, by omega, congrArg (Value.int .i64) (by omega), HA2.out, HS2.out, HR2.out⟩
      case measure => simp [intOf]; omega
    · have hjL : j = L := by omega
      subst hjL
      have HFN : Hid (FAt wr bf v1 most (bs ++ varBits n)) := by
        have := HAT.out
        rw [List.take_of_length_le (by have := HLE.out; omega), ← varBits_flat] at this; exact this
      clear hat hst hrw
      go_wp2_with fail
      go_ret
      exact ⟨rfl, v1, HFN.out, HST.out⟩

end Go.Proofs.Ythfimeaajboihaa
