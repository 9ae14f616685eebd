/- 'BitsRoom', by contracts. -/
import Derived.Test.YthfimeaajboihaaWakes
namespace Go.Proofs.Ythfimeaajboihaa
open Go.RowKit

/-- A slice of operations that can be read: kind, number, width. -/
def OpsAt (w : World) (ao : Option Addr) (n : Nat) (K : Nat → Int) (N : Nat → Nat) (D : Nat → Int) : Prop :=
  n ≤ 9223372036854775807 ∧ (0 < n → ∃ b off, ao = some ⟨b, off, none⟩ ∧ ∀ j, j < n → w.cell? ⟨b, off + j * 3, none⟩ = some (.int .i64 (K j)) ∧ w.cell? ⟨b, off + j * 3 + 1, none⟩ = some (.int .u64 (N j)) ∧ w.cell? ⟨b, off + j * 3 + 2, none⟩ = some (.int .i64 (D j))) ∧
  ∀ j, j < n → (-9223372036854775808 ≤ K j ∧ K j ≤ 9223372036854775807) ∧ N j < 18446744073709551616 ∧ (-9223372036854775808 ≤ D j ∧ D j ≤ 9223372036854775807)

theorem tmod_cases (i : Int) (n : Nat) (h : 0 < n) : (i.tmod n < 0 ∧ i.tmod n + n = i % n) ∨ (0 ≤ i.tmod n ∧ i.tmod n = i % n) := by
  have h1 := Int.emod_nonneg i (show (n : Int) ≠ 0 from by omega)
  have h2 := Int.emod_lt_of_pos i (show 0 < (n : Int) from by omega)
  have h3 := @Int.tmod_eq_emod i n
  split at h3
  · right; omega
  · left; rw [Int.natAbs_natCast] at h3; omega

set_option maxRecDepth 100000 in
set_option maxHeartbeats 1000000 in
theorem within_any (i : Int) (n : Nat) (y : Int) (w : World) (hy : y = n) (h1 : 0 < n) (h2 : n ≤ 1000) :
    Calls Try.prog 34 #[.int .i64 i, .int .i64 y] w fun e w' => e = .returned (.int .i64 (i % (n : Int))) ∧ w' = w := by
  subst hy
  have hlo := Int.emod_nonneg i (show (n : Int) ≠ 0 from by omega)
  have hhi := Int.emod_lt_of_pos i (show 0 < (n : Int) from by omega)
  rcases tmod_cases i n h1 with ⟨hc, he⟩ | ⟨hc, he⟩
  · have HE : Hid (i.tmod n + n = i % n) := he
    have hl2 : -(n : Int) ≤ i.tmod n := by omega
    clear he hlo hhi
    go_enter Try.func34, Try.ntmps34
    go_wp2
    go_ret
    exact ⟨congrArg (fun x => Ending.returned (Value.int .i64 x)) HE.out, rfl⟩
  · have HE : Hid (i.tmod n = i % n) := he
    clear he hlo hhi
    go_enter Try.func34, Try.ntmps34
    go_wp2
    go_ret
    exact ⟨congrArg (fun x => Ending.returned (Value.int .i64 x)) HE.out, rfl⟩

/-- How many bits the writer at b has. -/
def lenAt (w : World) (b : Nat) : Nat := match w.cell? ⟨b, 1, none⟩ with
  | some (.int _ n) => n.toNat
  | _ => 0
theorem lenAt_of {w : World} {bw : Nat} {v : Value} {most : Nat} {bs : List Bool} (h : WAt w bw v most bs) : lenAt w bw = bs.length := by
  obtain ⟨c0, c1, c2, cf⟩ := cell_of_three h.blk
  unfold lenAt
  rw [c1]
  simp

set_option maxRecDepth 100000 in
set_option maxHeartbeats 4000000 in
theorem room_any (mo : Int) (ao : Option Addr) (n cap : Nat) (K : Nat → Int) (N : Nat → Nat) (D : Nat → Int) (w : World) (hmo : -9223372036854775808 ≤ mo ∧ mo ≤ 9223372036854775807) (h : OpsAt w ao n K N D) :
    Calls Try.prog 6 #[.agg #[.int .i64 mo, .slice ao n cap]] w fun e w' => e = .returned (.bool true) ∧ Below w.heap.size w w' := by
  have HMO : Hid (-9223372036854775808 ≤ mo ∧ mo ≤ 9223372036854775807) := hmo
  have HOP : Hid (OpsAt w ao n K N D) := h
  clear hmo h
  go_enter Try.func6, Try.ntmps6
  go_wp2_with fail
  refine (within_any mo 40 _ _ rfl (by omega) (by omega)).mono ?_
  rintro e w1 ⟨rfl, hw1⟩
  obtain ⟨most, hm⟩ : ∃ most : Nat, mo % ((40 : Nat) : Int) = most := ⟨(mo % 40).toNat, by omega⟩
  have hml : most < 40 := by omega
  rw [hm]
  clear hm HMO
  have HB1 : Hid (Below w.heap.size w w1) := by rw [hw1]; exact (Below.refl _ _).alloc (Nat.le_refl _) _
  have hs1 : w1.heap.size = w.heap.size + 1 := by rw [hw1]; simp
  have HX : Hid (w1.heap[w.heap.size]? = some (.cells #[.int .i64 mo, .slice ao n cap] 24 (0, 0))) := by rw [hw1]; exact heap_alloc_new _ _
  have HOP1 : Hid (OpsAt w1 ao n K N D) := by
    refine ⟨HOP.out.1, fun hn => ?_, HOP.out.2.2⟩
    obtain ⟨b, off, e, hc⟩ := HOP.out.2.1 hn
    exact ⟨b, off, e, fun j hj => ⟨cell_later HB1.out (hc j hj).1, cell_later HB1.out (hc j hj).2.1, cell_later HB1.out (hc j hj).2.2⟩⟩
  have HB : Hid (w.heap.size + 1 = w1.heap.size) := hs1.symm
  obtain ⟨B, hBe⟩ : ∃ B, B = w.heap.size := ⟨_, rfl⟩
  rw [← hBe] at HX HB ⊢
  have HBE : Hid (B = w.heap.size) := hBe
  clear hw1 HOP hs1 hBe
  go_wp2_with fail
  refine (newW_any most _ (by omega)).mono ?_
  rintro e w2 ⟨rfl, hat, hw2⟩
  have HO2 : Hid (OwnW (B + 1) w1 w2 (B + 1) (.slice none 0 0) most []) := by
    rw [HB.out]
    exact ⟨hat, by rw [hw2]; exact (Below.refl _ _).alloc (Nat.le_refl _) _, Nat.le_refl _, fun k hk => by simp [Value.ownBlock] at hk, by rw [hw2]; simp⟩
  rw [← HB.out]
  clear hat hw2
  go_wp2_with fail
  go_loopw [6, 7, 8, 9, 10] (fun i _ _ _ _ wr => ∃ (k : Nat) (v : Value) (bs : List Bool), k ≤ n ∧ k ≤ 300 ∧ i = .int .i64 k ∧ OwnW (B + 1) w1 wr (B + 1) v most bs) (fun i _ _ _ _ _ => 300 - (intOf i).toNat)
  case atStart => exact ⟨0, .slice none 0 0, [], Nat.zero_le _, Nat.zero_le _, rfl, HO2.out⟩
  case round =>
    obtain ⟨k, v, bs, hk1, hk2, rfl, ho⟩ := hrel
    have HO : Hid (OwnW (B + 1) w1 wr (B + 1) v most bs) := ho
    have hnl : n ≤ 9223372036854775807 := HOP1.out.1
    have hbox : wr.heap[B]? = some (.cells #[.int .i64 mo, .slice ao n cap] 24 (0, 0)) := by rw [ho.bel.block B (by omega)]; exact HX.out
    obtain ⟨x0, x1, xf⟩ := cell_of_two hbox
    clear ho HO2 hbox
    by_cases hlt : k < n
    · by_cases h300 : k < 300
      · obtain ⟨b, off, rfl, hc⟩ := HOP1.out.2.1 (by omega)
        obtain ⟨e1, e2, e3⟩ := hc k hlt
        have hbl : ∀ j x, w1.cell? ⟨b, j, none⟩ = some x → wr.cell? ⟨b, j, none⟩ = some x := fun j x hx => by
          have hb : b < B + 1 := by rw [HB.out]; exact World.block_lt_of_cell? w1 _ hx
          rw [HO.out.bel.cell (p := ⟨b, j, none⟩) hb]; exact hx
        have g2 := hbl _ _ e2
        have g3 := hbl _ _ e3
        have hNk : Hid (N k < 18446744073709551616) := (HOP1.out.2.2 k hlt).2.1
        clear hbl e1 e2 e3 hc
        generalize N k = nk at g2 hNk
        generalize D k = dk at g3
        go_wp2_with fail
        refine (within_any dk 65 _ _ rfl (by omega) (by omega)).mono ?_
        rintro e w3 ⟨rfl, hw3⟩
        obtain ⟨wd, hwd⟩ : ∃ wd : Nat, dk % ((65 : Nat) : Int) = wd := ⟨(dk % 65).toNat, by omega⟩
        have hwl : wd ≤ 64 := by omega
        rw [hwd]
        subst hw3
        clear hwd
        by_cases h64 : wd < 64
        · obtain ⟨pp, hpp⟩ : ∃ pp : Nat, pp = 2 ^ wd := ⟨_, rfl⟩
          have hp0 : 0 < pp := by rw [hpp]; exact Nat.pow_pos (by omega)
          have hwrap : IntKind.u64.wrap ((2 : Int) ^ wd) = (pp : Int) := by
            have e : ((2 : Int) ^ wd) = ((2 ^ wd : Nat) : Int) := by simp
            rw [e, hpp, wrapu64_nat _ (Nat.lt_of_lt_of_le (Nat.pow_lt_pow_right (by omega) h64) (by decide))]
          have HV : Hid (nk % pp < 2 ^ wd) := by rw [← hpp]; exact Nat.mod_lt _ hp0
          clear hpp
          go_wp2_with fail
          rw [show ((nk : Int) % (pp : Int)) = ((nk % pp : Nat) : Int) from by simp]
          generalize nk % pp = val at HV ⊢
          clear hwrap
          refine (len_any (B + 1) v most bs _ HO.out.at_).mono ?_
          rintro e w4 ⟨rfl, hw4⟩
          subst hw4
          have hbsl : bs.length ≤ 8 * most := HO.out.at_.le
          by_cases hfit : bs.length + wd ≤ 8 * most
          · go_wp2_with fail
            refine (put_fits (B + 1) v most bs val wd _ HO.out.at_ hwl HV.out hfit).mono ?_
            rintro e w5 ⟨rfl, v5, hat, hst⟩
            have HO5 : Hid (OwnW (B + 1) w1 w5 (B + 1) v5 most (bs ++ bitsOf val wd)) := HO.out.step hat hst
            have hl5 : (bs ++ bitsOf val wd).length = bs.length + wd := by rw [List.length_append, length_bitsOf]
            generalize bs ++ bitsOf val wd = bs5 at HO5 hl5
            clear hat hst
            have hq1 : ((bs5.length : Int) != (bs.length : Int) + (wd : Int)) = false := by simp; omega
            have hq2 : decide (8 * (most : Int) < (bs5.length : Int)) = false := by simp; omega
            clear hl5
            go_wp2_with fail
            refine (len_any (B + 1) v5 most bs5 _ HO5.out.at_).mono ?_
            rintro e w6 ⟨rfl, hw6⟩
            subst hw6
            go_wp2_with fail
            refine (len_any (B + 1) v5 most bs5 _ HO5.out.at_).mono ?_
            rintro e w6 ⟨rfl, hw6⟩
            subst hw6
            go_wp2_with fail
            go_roundw
            case rel => exact ⟨k + 1, v5, bs5, by omega, by omega, congrArg (Value.int .i64) (by omega), HO5.out⟩
            case measure => simp [intOf]; omega
          · go_wp2_with fail
            refine (put_full (B + 1) v most bs val wd _ HO.out.at_ hwl HV.out (by omega)).mono ?_
            rintro e w5 ⟨rfl, q, hw5⟩
            have HO5 : Hid (OwnW (B + 1) w1 w5 (B + 1) v most bs) := by rw [hw5]; exact HO.out.later ((Fr.refl (fun _ => False) _).drewN q) (fun hh => hh) (fun _ _ hh => hh) (fun _ hh => hh.elim)
            clear hw5
            have hq1 : ((bs.length : Int) != (bs.length : Int)) = false := by simp
            have hq2 : decide ((bs.length : Int) + (wd : Int) ≤ 8 * (most : Int)) = false := by simp; omega
            go_wp2_with fail
            refine (len_any (B + 1) v most bs _ HO5.out.at_).mono ?_
            rintro e w6 ⟨rfl, hw6⟩
            subst hw6
            go_wp2_with fail
            go_roundw
            case rel => exact ⟨k + 1, v, bs, by omega, by omega, congrArg (Value.int .i64) (by omega), HO5.out⟩
            case measure => simp [intOf]; omega
        · have HV : Hid (nk < 2 ^ wd) := by
            rw [show wd = 64 from by omega]; exact hNk.out
          generalize nk = val at HV g2 hNk ⊢
          go_wp2_with fail
          refine (len_any (B + 1) v most bs _ HO.out.at_).mono ?_
          rintro e w4 ⟨rfl, hw4⟩
          subst hw4
          have hbsl : bs.length ≤ 8 * most := HO.out.at_.le
          by_cases hfit : bs.length + wd ≤ 8 * most
          · go_wp2_with fail
            refine (put_fits (B + 1) v most bs val wd _ HO.out.at_ hwl HV.out hfit).mono ?_
            rintro e w5 ⟨rfl, v5, hat, hst⟩
            have HO5 : Hid (OwnW (B + 1) w1 w5 (B + 1) v5 most (bs ++ bitsOf val wd)) := HO.out.step hat hst
            have hl5 : (bs ++ bitsOf val wd).length = bs.length + wd := by rw [List.length_append, length_bitsOf]
            generalize bs ++ bitsOf val wd = bs5 at HO5 hl5
            clear hat hst
            have hq1 : ((bs5.length : Int) != (bs.length : Int) + (wd : Int)) = false := by simp; omega
            have hq2 : decide (8 * (most : Int) < (bs5.length : Int)) = false := by simp; omega
            clear hl5
            go_wp2_with fail
            refine (len_any (B + 1) v5 most bs5 _ HO5.out.at_).mono ?_
            rintro e w6 ⟨rfl, hw6⟩
            subst hw6
            go_wp2_with fail
            refine (len_any (B + 1) v5 most bs5 _ HO5.out.at_).mono ?_
            rintro e w6 ⟨rfl, hw6⟩
            subst hw6
            go_wp2_with fail
            go_roundw
            case rel => exact ⟨k + 1, v5, bs5, by omega, by omega, congrArg (Value.int .i64) (by omega), HO5.out⟩
            case measure => simp [intOf]; omega
          · go_wp2_with fail
            refine (put_full (B + 1) v most bs val wd _ HO.out.at_ hwl HV.out (by omega)).mono ?_
            rintro e w5 ⟨rfl, q, hw5⟩
            have HO5 : Hid (OwnW (B + 1) w1 w5 (B + 1) v most bs) := by rw [hw5]; exact HO.out.later ((Fr.refl (fun _ => False) _).drewN q) (fun hh => hh) (fun _ _ hh => hh) (fun _ hh => hh.elim)
            clear hw5
            have hq1 : ((bs.length : Int) != (bs.length : Int)) = false := by simp
            have hq2 : decide ((bs.length : Int) + (wd : Int) ≤ 8 * (most : Int)) = false := by simp; omega
            go_wp2_with fail
            refine (len_any (B + 1) v most bs _ HO5.out.at_).mono ?_
            rintro e w6 ⟨rfl, hw6⟩
            subst hw6
            go_wp2_with fail
            go_roundw
            case rel => exact ⟨k + 1, v, bs, by omega, by omega, congrArg (Value.int .i64) (by omega), HO5.out⟩
            case measure => simp [intOf]; omega
      · clear hk2
        go_wp2_with fail
        go_loopw [101] (fun _ wr => ∃ (v : Value) (bs : List Bool), OwnW (B + 1) w1 wr (B + 1) v most bs) (fun _ wr => 8 * most - lenAt wr (B + 1))
        case atStart => exact ⟨v, bs, HO.out⟩
        case round =>
          obtain ⟨v, bs, ho⟩ := hrel
          have HO : Hid (OwnW (B + 1) w1 wr (B + 1) v most bs) := ho
          have hbsl : bs.length ≤ 8 * most := ho.at_.le
          have HM : Hid (lenAt wr (B + 1) = bs.length) := lenAt_of ho.at_
          clear ho
          go_wp2_with fail
          refine (len_any (B + 1) v most bs _ HO.out.at_).mono ?_
          rintro e w4 ⟨rfl, hw4⟩
          subst hw4
          by_cases hfull : bs.length < 8 * most
          · go_wp2_with fail
            refine (put_fits' (B + 1) v most bs _ _ 1 1 _ rfl rfl HO.out.at_ (by omega) (by decide) (by omega)).mono ?_
            rintro e w5 ⟨rfl, v5, hat, hst⟩
            have HO5 : Hid (OwnW (B + 1) w1 w5 (B + 1) v5 most (bs ++ bitsOf 1 1)) := HO.out.step hat hst
            have HM5 : Hid (lenAt w5 (B + 1) = bs.length + 1) := by
              show _ = _
              rw [lenAt_of hat, List.length_append, length_bitsOf]
            clear hat hst
            go_wp2_with fail
            go_roundw
            case rel => exact ⟨v5, bs ++ bitsOf 1 1, HO5.out⟩
            case measure => rw [HM.out, HM5.out]; omega
          · clear HM
            go_wp2_with fail
            refine (put_full' (B + 1) v most bs _ _ 0 1 _ rfl rfl HO.out.at_ (by omega) (by decide) (by omega)).mono ?_
            rintro e w5 ⟨rfl, q, hw5⟩
            have HO5 : Hid (OwnW (B + 1) w1 w5 (B + 1) v most bs) := by rw [hw5]; exact HO.out.later ((Fr.refl (fun _ => False) _).drewN q) (fun hh => hh) (fun _ _ hh => hh) (fun _ hh => hh.elim)
            clear hw5 HO
            go_wp2_with fail
            refine (put_fits' (B + 1) v most bs _ _ 0 0 _ rfl rfl HO5.out.at_ (by omega) (by decide) (by omega)).mono ?_
            rintro e w6 ⟨rfl, v6, hat, hst⟩
            have HO6 : Hid (OwnW (B + 1) w1 w6 (B + 1) v6 most bs) := by
              have := HO5.out.step hat hst
              rw [bitsOf_zero, List.append_nil] at this; exact this
            clear hat hst HO5
            go_wp2_with fail
            refine (wvar_full' (B + 1) v6 most bs _ 0 _ rfl HO6.out.at_ (by omega) (by have := length_varBits_pos 0; omega)).mono ?_
            rintro e w7 ⟨rfl, v7, hat, hst⟩
            have HO7 : Hid (OwnW (B + 1) w1 w7 (B + 1) v7 most bs) := HO6.out.step hat hst
            clear hat hst HO6
            go_wp2_with fail
            refine (bytes_any (B + 1) v7 most bs _ HO7.out.at_).mono ?_
            rintro e w8 ⟨rv, rfl, hrow, hbel⟩
            have hB : Hid (Below (B + 1) w1 w8) := HO7.out.bel.trans (hbel.mono HO7.out.size)
            have hsz : Hid (B + 1 ≤ w8.heap.size) := Nat.le_trans HO7.out.size hbel.size
            obtain ⟨ro, rc, hv, _, _⟩ := SeenAt.of_row hrow (by rw [length_pack]; omega)
            have hlp : (pack bs).length = most := by rw [length_pack]; omega
            rw [hlp] at hv
            rw [hv]
            clear hrow hbel hv hlp HO7
            go_wp2_with fail
            refine (wakes_any _).mono ?_
            rintro e w9 ⟨rfl, hb9⟩
            have hB9 : Hid (Below B w w9) := by
              have h1 := HB1.out
              rw [← HBE.out] at h1
              exact h1.trans ((hB.out.mono (by omega)).trans (hb9.mono (by have := hsz.out; omega)))
            clear hb9
            go_wp2_with fail
            go_ret
            refine ⟨rfl, ?_⟩
            rw [← HBE.out]
            exact hB9.out
    · clear hk2
      go_wp2_with fail
      go_loopw [101] (fun _ wr => ∃ (v : Value) (bs : List Bool), OwnW (B + 1) w1 wr (B + 1) v most bs) (fun _ wr => 8 * most - lenAt wr (B + 1))
      case atStart => exact ⟨v, bs, HO.out⟩
      case round =>
        obtain ⟨v, bs, ho⟩ := hrel
        have HO : Hid (OwnW (B + 1) w1 wr (B + 1) v most bs) := ho
        have hbsl : bs.length ≤ 8 * most := ho.at_.le
        have HM : Hid (lenAt wr (B + 1) = bs.length) := lenAt_of ho.at_
        clear ho
        go_wp2_with fail
        refine (len_any (B + 1) v most bs _ HO.out.at_).mono ?_
        rintro e w4 ⟨rfl, hw4⟩
        subst hw4
        by_cases hfull : bs.length < 8 * most
        · go_wp2_with fail
          refine (put_fits' (B + 1) v most bs _ _ 1 1 _ rfl rfl HO.out.at_ (by omega) (by decide) (by omega)).mono ?_
          rintro e w5 ⟨rfl, v5, hat, hst⟩
          have HO5 : Hid (OwnW (B + 1) w1 w5 (B + 1) v5 most (bs ++ bitsOf 1 1)) := HO.out.step hat hst
          have HM5 : Hid (lenAt w5 (B + 1) = bs.length + 1) := by
            show _ = _
            rw [lenAt_of hat, List.length_append, length_bitsOf]
          clear hat hst
          go_wp2_with fail
          go_roundw
          case rel => exact ⟨v5, bs ++ bitsOf 1 1, HO5.out⟩
          case measure => rw [HM.out, HM5.out]; omega
        · clear HM
          go_wp2_with fail
          refine (put_full' (B + 1) v most bs _ _ 0 1 _ rfl rfl HO.out.at_ (by omega) (by decide) (by omega)).mono ?_
          rintro e w5 ⟨rfl, q, hw5⟩
          have HO5 : Hid (OwnW (B + 1) w1 w5 (B + 1) v most bs) := by rw [hw5]; exact HO.out.later ((Fr.refl (fun _ => False) _).drewN q) (fun hh => hh) (fun _ _ hh => hh) (fun _ hh => hh.elim)
          clear hw5 HO
          go_wp2_with fail
          refine (put_fits' (B + 1) v most bs _ _ 0 0 _ rfl rfl HO5.out.at_ (by omega) (by decide) (by omega)).mono ?_
          rintro e w6 ⟨rfl, v6, hat, hst⟩
          have HO6 : Hid (OwnW (B + 1) w1 w6 (B + 1) v6 most bs) := by
            have := HO5.out.step hat hst
            rw [bitsOf_zero, List.append_nil] at this; exact this
          clear hat hst HO5
          go_wp2_with fail
          refine (wvar_full' (B + 1) v6 most bs _ 0 _ rfl HO6.out.at_ (by omega) (by have := length_varBits_pos 0; omega)).mono ?_
          rintro e w7 ⟨rfl, v7, hat, hst⟩
          have HO7 : Hid (OwnW (B + 1) w1 w7 (B + 1) v7 most bs) := HO6.out.step hat hst
          clear hat hst HO6
          go_wp2_with fail
          refine (bytes_any (B + 1) v7 most bs _ HO7.out.at_).mono ?_
          rintro e w8 ⟨rv, rfl, hrow, hbel⟩
          have hB : Hid (Below (B + 1) w1 w8) := HO7.out.bel.trans (hbel.mono HO7.out.size)
          have hsz : Hid (B + 1 ≤ w8.heap.size) := Nat.le_trans HO7.out.size hbel.size
          obtain ⟨ro, rc, hv, _, _⟩ := SeenAt.of_row hrow (by rw [length_pack]; omega)
          have hlp : (pack bs).length = most := by rw [length_pack]; omega
          rw [hlp] at hv
          rw [hv]
          clear hrow hbel hv hlp HO7
          go_wp2_with fail
          refine (wakes_any _).mono ?_
          rintro e w9 ⟨rfl, hb9⟩
          have hB9 : Hid (Below B w w9) := by
            have h1 := HB1.out
            rw [← HBE.out] at h1
            exact h1.trans ((hB.out.mono (by omega)).trans (hb9.mono (by have := hsz.out; omega)))
          clear hb9
          go_wp2_with fail
          go_ret
          refine ⟨rfl, ?_⟩
          rw [← HBE.out]
          exact hB9.out

end Go.Proofs.Ythfimeaajboihaa
