/- 'BitsVars', by contracts. -/
import Derived.Test.YthfimeaajboihaaWakes
import Derived.Test.YthfimeaajboihaaMath
import Derived.Test.YthfimeaajboihaaCut
namespace Go.Proofs.Ythfimeaajboihaa
open Go.RowKit

set_option maxRecDepth 100000 in
set_option maxHeartbeats 1000000 in
theorem copy_some (a : Addr) (n cap : Nat) (l : List Nat) (w : World) (hl : l.length = n) (hn : n ≤ 140737488355328) (hc : ∀ (j : Nat) (u : Value), (byteCells l)[j]? = some u → w.cell? (a.add j) = some u) :
    Calls Try.prog 35 #[.slice (some a) n cap] w fun e w' => ∃ rv, e = .returned rv ∧ w'.ownsRow w.heap.size 5 1 rv n (byteCells l) ∧ Below w.heap.size w w' := by
  obtain ⟨i0, hi, hz0, hz1, hz2⟩ := info_parts Try.info5
  have HC : Hid (∀ (j : Nat) (u : Value), (byteCells l)[j]? = some u → w.cell? (a.add j) = some u) := hc
  clear hc
  have hown : w.ownsRow w.heap.size 5 1 (.slice none 0 0) 0 [] := World.ownsRow_nil _ _ _ _
  go_enter Try.func35, Try.ntmps35
  go_wp2_with (first | (at_builtin; refine wpList_append_own _ rfl _ _ 39 rfl w.heap.size 5 i0 (.int .u8 0) 1 1 Try.underlying39 hi hz0 hz1 hz2 rfl (by decide) _ _ _ rfl hown a n cap (byteCells l) rfl ?c0 ?c1 ?c2 ?c3 ?c4 ?c5 ?_))
  case c0 => rw [length_byteCells]; omega
  case c1 => exact HC.out
  case c2 => exact byteCells_one l
  case c3 => unfold maxLen; omega
  case c4 => omega
  case c5 => simp
  intro v' w1 hown' hgrow hnn
  have HO : Hid (w1.ownsRow w.heap.size 5 1 v' n (byteCells l)) := by
    exact hown'
  have HB : Hid (Below w.heap.size w w1) := (Below.refl _ _).grown hgrow (Nat.le_refl _) (fun k hk => by simp [Value.ownBlock] at hk)
  clear hown' hgrow hnn hown
  go_wp2
  go_ret
  exact ⟨v', rfl, HO.out, HB.out⟩

theorem left_is (br : Nat) (v : Value) (l : List Nat) (pos : Nat) (y : Int) (w : World) (h : RAt w br v l pos) (hy : ((8 * l.length - pos : Nat) : Int) = y) :
    Calls Try.prog 31 #[.pointer (some ⟨br, 0, none⟩)] w fun e w' => e = .returned (.int .i64 y) ∧ ∃ q, w' = w.drewN q := by
  subst hy; exact left_any br v l pos w h

def cnt (m : Nat) : Nat := if m = 0 then 0 else (groups m).length
theorem cnt_zero : cnt 0 = 0 := rfl
theorem cnt_pos (m : Nat) (h : 0 < m) : cnt m = 1 + cnt (m / 128) := by
  unfold cnt
  rw [if_neg (by omega)]
  by_cases hs : m < 128
  · rw [if_pos (by omega), groups_small m hs]; simp
  · rw [if_neg (by omega), groups_more m (by omega)]; simp; omega
theorem len_cnt (n : Nat) : (groups n).length = 1 + cnt (n / 128) := by
  by_cases hs : n < 128
  · rw [show n / 128 = 0 from by omega, cnt_zero, groups_small n hs]; rfl
  · rw [groups_more n (by omega)]
    unfold cnt
    rw [if_neg (by omega)]; simp; omega

/-- A slice of words that can be read. -/
def WordsAt (w : World) (ao : Option Addr) (n : Nat) (N : Nat → Nat) : Prop :=
  n ≤ 9223372036854775807 ∧ (0 < n → ∃ b off, ao = some ⟨b, off, none⟩ ∧ ∀ j, j < n → w.cell? ⟨b, off + j, none⟩ = some (.int .u64 (N j))) ∧ ∀ j, j < n → N j < 18446744073709551616

set_option maxRecDepth 100000 in
set_option maxHeartbeats 4000000 in
theorem vars_any (ao : Option Addr) (n cap : Nat) (N : Nat → Nat) (w : World) (h : WordsAt w ao n N) :
    Calls Try.prog 8 #[.slice ao n cap] w fun e w' => e = .returned (.bool true) ∧ Below w.heap.size w w' := by
  have HOP : Hid (WordsAt w ao n N) := h
  have hnl : n ≤ 9223372036854775807 := h.1
  clear h
  go_enter Try.func8, Try.ntmps8
  go_wp2_with fail
  go_loopw [3, 4, 5, 6, 7, 8, 9, 10, 11, 12, 13, 14, 15] (fun i _ _ _ _ _ _ _ _ _ _ _ _ wr => ∃ k : Nat, k ≤ n ∧ k ≤ 60 ∧ i = .int .i64 k ∧ Below w.heap.size w wr) (fun i _ _ _ _ _ _ _ _ _ _ _ _ _ => 60 - (intOf i).toNat)
  case atStart => exact ⟨0, Nat.zero_le _, Nat.zero_le _, rfl, Below.refl _ _⟩
  case round =>
    obtain ⟨k, hk1, hk2, rfl, hbel⟩ := hrel
    have HB0 : Hid (Below w.heap.size w wr) := hbel
    clear hbel
    by_cases hlt : k < n
    · by_cases h60 : k < 60
      · obtain ⟨b, off, rfl, hc⟩ := HOP.out.2.1 (by omega)
        have e1 := hc k hlt
        have HN : Hid (N k < 18446744073709551616) := HOP.out.2.2 k hlt
        generalize N k = nk at e1 HN
        have HC : Hid (∀ W, Below w.heap.size w W → W.cell? ⟨b, off + k, none⟩ = some (.int .u64 (nk : Int))) := fun W hb => cell_later hb e1
        clear e1 hc
        go_wp2_with fail
        refine (newW_any' 20 _ _ rfl (by omega)).mono ?_
        rintro e w1 ⟨rfl, hat, hw1⟩
        have hs0 := HB0.out.size
        have HO1 : Hid (OwnW wr.heap.size wr w1 wr.heap.size (.slice none 0 0) 20 []) := ⟨hat, by rw [hw1]; exact (Below.refl _ _).alloc (Nat.le_refl _) _, Nat.le_refl _, fun k hk => by simp [Value.ownBlock] at hk, by rw [hw1]; simp⟩
        have c1 := HC.out w1 (HB0.out.trans (HO1.out.bel.mono hs0))
        clear hat hw1
        generalize wr.heap.size = B at HO1 hs0 ⊢
        go_wp2_with fail
        refine (wvar_fits B (.slice none 0 0) 20 [] nk _ HO1.out.at_ HN.out (by have := length_varBits nk; have := length_groups_u64 nk HN.out; simp; omega)).mono ?_
        rintro e w2 ⟨rfl, v2, hat, hst⟩
        have HO2 : Hid (OwnW B wr w2 B v2 20 ([] ++ varBits nk)) := HO1.out.step hat hst
        clear hat hst HO1 c1
        go_wp2_with fail
        refine (bytes_any B v2 20 ([] ++ varBits nk) _ HO2.out.at_).mono ?_
        rintro e w3 ⟨rv, rfl, hrow, hbel⟩
        rw [pack_varBits nk HN.out] at hrow
        have HB3 : Hid (Below w.heap.size w w3) := HB0.out.trans ((HO2.out.bel.mono hs0).trans (hbel.mono (Nat.le_trans hs0 HO2.out.size)))
        have hL : 0 < (groups nk).length := by rw [len_cnt]; omega
        have hL10 := length_groups_u64 nk HN.out
        obtain ⟨g, rc, hv, _, hgc, hgm⟩ := row_form hrow hL
        rw [hv] at hrow ⊢
        have HLC : Hid ((groups nk).length = 1 + cnt (nk / 128)) := len_cnt nk
        have HRW : Hid (w3.ownsRow w2.heap.size 5 1 (.slice (some ⟨g, 0, none⟩) (groups nk).length rc) (groups nk).length (byteCells (groups nk))) := hrow
        have c3 := HC.out w3 HB3.out
        unfold maxLen at hgm
        clear hv hrow hbel HO2
        obtain ⟨L, hLe⟩ : ∃ L, L = (groups nk).length := ⟨_, rfl⟩
        rw [← hLe] at HRW HLC hL hL10 hgc ⊢
        have HLE : Hid (L = (groups nk).length) := hLe
        clear hLe
        go_wp2_with fail
        go_loop [7, 8] (fun c m => ∃ cc mm : Nat, c = .int .i64 cc ∧ m = .int .u64 mm ∧ cc ≤ L ∧ Hid (cc + cnt mm = L)) (fun _ m => (intOf m).toNat)
        case atStart => exact ⟨1, nk / 128, rfl, congrArg (Value.int .u64) (by omega), by omega, HLC.out.symm⟩
        case round =>
          obtain ⟨cc, mm, rfl, rfl, hcc, HCM⟩ := hrel
          by_cases hmm : 0 < mm
          · have HC2 := cnt_pos mm hmm
            have HCN : Hid (cc + 1 + cnt (mm / 128) = L) := by have := HCM.out; show _ = _; omega
            have hcl : cc + 1 ≤ L := by have := HCN.out; omega
            clear HC2
            go_wp2_with fail
            go_round
            case rel => exact ⟨cc + 1, mm / 128, congrArg (Value.int .i64) (by omega), congrArg (Value.int .u64) (by omega), hcl, HCN⟩
            case measure => simp [intOf]; omega
          · have hm0 : mm = 0 := by omega
            subst hm0
            have hcL : cc = L := by have := HCM.out; rw [cnt_zero] at this; omega
            subst hcL
            clear HCM hcc hmm
            go_wp2_with fail
            refine (copy_some ⟨g, 0, none⟩ cc rc (groups nk) _ HLE.out.symm (by omega) (fun j u hu => HRW.out.cells rfl j u hu)).mono ?_
            rintro e w4 ⟨cv, rfl, hown4, hbel4⟩
            have HB4 : Hid (Below w3.heap.size w3 w4) := hbel4
            have HO4 : Hid (w4.ownsRow w3.heap.size 5 1 cv cc (byteCells (groups nk))) := hown4
            obtain ⟨i0, hi, hz0, hz1, hz2⟩ := info_parts Try.info5
            clear hown4 hbel4
            go_wp2_with (first | (at_builtin; refine wpList_append_row _ rfl _ _ 39 rfl 5 i0 (.int .u8 0) 1 1 Try.underlying39 hi hz0 hz1 hz2 rfl (by decide) _ _ _ rfl ((ownsRow_base HO4.out (fun _ _ => Nat.zero_le _)).alloc _) ⟨w4.heap.size, 0, none⟩ 1 1 [.int .u8 255] rfl rfl (cell_one_new _ _ _) ?d2 ?d3 ?d4 (by decide) ?_))
            case d2 => intro u hu; simp at hu; subst hu; rfl
            case d3 => unfold maxLen; omega
            case d4 => omega
            intro g5 cap5 w5 hown5 hgrow5 hrow5 hc5 hm5
            have HB5 : Hid (Below w3.heap.size w3 w5) := (HB4.out.alloc HB4.out.size _).grown hgrow5 (by have := HB4.out.size; simp; omega) (fun k hk => (HO4.out.lt k hk).1)
            have HO5 : Hid (w5.ownsRow 0 5 1 (.slice (some ⟨g5, 0, none⟩) (cc + 1) cap5) (cc + 1) (byteCells (groups nk ++ [255]))) := by rw [byteCells_append]; exact hown5
            clear hown5 hgrow5 hrow5 hi hz0 hz1 hz2 HO4 HB4
            go_wp2_with fail
            refine (newR_some ⟨g5, 0, none⟩ (cc + 1) cap5 (groups nk ++ [255]) _ (by rw [List.length_append, ← HLE.out]; rfl) (by omega) (fun j u hu => HO5.out.cells rfl j u hu) (fun x hx => by
              simp only [List.mem_append, List.mem_singleton] at hx
              rcases hx with hx | rfl
              · exact groups_lt_u64 nk HN.out x hx
              · omega)).mono ?_
            rintro e w6 ⟨br, rv6, rfl, hat6, hbel6, hbr6, hrr6⟩
            have HB6 : Hid (Below w3.heap.size w3 w6) := HB5.out.trans (hbel6.mono HB5.out.size)
            have hbr : w3.heap.size ≤ br := Nat.le_trans HB5.out.size hbr6
            have HR6 : Hid (RAt w6 br rv6 (groups nk ++ [255]) 0) := hat6
            clear hat6 hbel6 hbr6 hrr6 HO5 HB5
            have hq1 : ((cc : Int) != (cc : Int)) = false := by simp
            go_wp2_with fail
            refine (rvar_any br rv6 (groups nk ++ [255]) 0 nk 0 (8 * cc) _ HR6.out (by show _ = _; rw [rvar_with nk HN.out, ← HLE.out])).mono ?_
            rintro e w7 ⟨rfl, hat7, hfr7⟩
            rw [backTo_ok] at hat7
            have HB7 : Hid (Below w3.heap.size w3 w7) := HB6.out.trans (hfr7.below HB6.out.size (by omega))
            have HR7 : Hid (RAt w7 br rv6 (groups nk ++ [255]) (8 * cc)) := hat7
            have c7 := HC.out w7 (HB3.out.trans (HB7.out.mono HB3.out.size))
            have hq2 : ((nk : Int) != (nk : Int)) = false := by simp
            clear hat7 hfr7 HR6 HB6 c3
            go_wp2_with fail
            refine (left_is br rv6 (groups nk ++ [255]) (8 * cc) 8 _ HR7.out (by rw [List.length_append, ← HLE.out, List.length_singleton]; omega)).mono ?_
            rintro e w8 ⟨rfl, q, hw8⟩
            have HB8 : Hid (Below w3.heap.size w3 w8) := by rw [hw8]; exact below_drewN HB7.out q
            clear hw8 HB7 HR7 c7
            go_wp2_with fail
            go_loopw [12, 13, 14, 15] (fun i _ _ _ wr => ∃ j : Nat, j ≤ cc ∧ i = .int .i64 j ∧ Below w3.heap.size w3 wr) (fun i _ _ _ _ => cc - (intOf i).toNat)
            case atStart => exact ⟨0, Nat.zero_le _, rfl, HB8.out⟩
            case round =>
              obtain ⟨j, hj, rfl, hbel⟩ := hrel
              have HB9 : Hid (Below w3.heap.size w3 wr) := hbel
              clear hbel HB8
              by_cases hjl : j < cc
              · have HRJ : Hid (wr.ownsRow 0 5 1 (.slice (some ⟨g, 0, none⟩) j rc) j (byteCells ((groups nk).take j))) := by
                  have h1 := row_kept (HRW.out) (Fr.of_below HB9.out (fun _ => False)) (fun _ _ hh => hh)
                  have h2 := row_shrink (k := j) h1 (by omega)
                  rw [byteCells_take] at h2
                  exact ownsRow_base h2 (fun _ _ => Nat.zero_le _)
                have hlj : ((groups nk).take j).length = j := by rw [List.length_take, ← HLE.out]; omega
                have HLJ : Hid (((groups nk).take j).length = j) := hlj
                clear hlj
                go_wp2_with fail
                refine (newR_some ⟨g, 0, none⟩ j rc ((groups nk).take j) _ HLJ.out (by omega) (fun j u hu => HRJ.out.cells rfl j u hu) (fun x hx => groups_lt_u64 nk HN.out x (List.mem_of_mem_take hx))).mono ?_
                rintro e w10 ⟨b10, v10, rfl, hat, hbel, hb10, hr10⟩
                have HB10 : Hid (Below w3.heap.size w3 w10) := HB9.out.trans (hbel.mono HB9.out.size)
                have HR10 : Hid (RAt w10 b10 v10 ((groups nk).take j) 0) := hat
                have hb : w3.heap.size ≤ b10 := Nat.le_trans HB9.out.size hb10
                clear hat hbel hb10 hr10 HRJ HB9
                obtain ⟨x10, p10, hrr⟩ : ∃ x10 p10, rvar ((groups nk).take j) 0 = (x10, 14, p10) := by
                  have := rvar_short nk j HN.out (by rw [← HLE.out]; exact hjl)
                  exact ⟨_, _, Prod.ext rfl (Prod.ext this rfl)⟩
                have HRR : Hid (rvar ((groups nk).take j) 0 = (x10, 14, p10)) := hrr
                clear hrr
                go_wp2_with fail
                refine (rvar_any b10 v10 ((groups nk).take j) 0 x10 14 p10 _ HR10.out HRR).mono ?_
                rintro e w11 ⟨rfl, hat, hfr⟩
                rw [backTo_back _ _ _ (by omega)] at hat
                have HB11 : Hid (Below w3.heap.size w3 w11) := HB10.out.trans (hfr.below HB10.out.size (by omega))
                have HR11 : Hid (RAt w11 b10 v10 ((groups nk).take j) 0) := hat
                clear hat hfr HB10 HR10 HRR
                go_wp2_with fail
                refine (left_is b10 v10 ((groups nk).take j) 0 (8 * (j : Int)) _ HR11.out (by rw [HLJ.out]; omega)).mono ?_
                rintro e w12 ⟨rfl, q12, hw12⟩
                have HB12 : Hid (Below w3.heap.size w3 w12) := by rw [hw12]; exact below_drewN HB11.out q12
                have hq3 : ((8 * (j : Int)) != (8 * (j : Int))) = false := by simp
                clear hw12 HB11 HR11
                go_wp2_with fail
                go_roundw
                case rel => exact ⟨j + 1, by omega, congrArg (Value.int .i64) (by omega), HB12.out⟩
                case measure => simp [intOf]; omega
              · have HBf : Hid (Below w.heap.size w wr) := HB3.out.trans (HB9.out.mono HB3.out.size)
                clear HB9
                go_wp2_with fail
                go_roundw
                case rel => exact ⟨k + 1, by omega, by omega, congrArg (Value.int .i64) (by omega), HBf.out⟩
                case measure => simp [intOf]; omega
      · go_wp2_with fail
        refine (wakes_any _).mono ?_
        rintro e w1 ⟨rfl, hb⟩
        have HBf : Hid (Below w.heap.size w w1) := HB0.out.trans (hb.mono HB0.out.size)
        clear hb
        go_wp2_with fail
        go_ret
        exact ⟨rfl, HBf.out⟩
    · go_wp2_with fail
      refine (wakes_any _).mono ?_
      rintro e w1 ⟨rfl, hb⟩
      have HBf : Hid (Below w.heap.size w w1) := HB0.out.trans (hb.mono HB0.out.size)
      clear hb
      go_wp2_with fail
      go_ret
      exact ⟨rfl, HBf.out⟩

end Go.Proofs.Ythfimeaajboihaa
