/- 'BitsParts', by contracts. -/
import Derived.Test.YthfimeaajboihaaTwo
namespace Go.Proofs.Ythfimeaajboihaa
open Go.RowKit

theorem parts_test (nn xx yy low : Nat) (h : nn = xx * 2 ^ low + yy) (hn : nn < 18446744073709551616) : ((nn : Int) != IntKind.u64.wrap (IntKind.u64.wrap ((xx : Int) * 2 ^ low) + (yy : Int))) = false := by
  have e : ((xx : Int) * 2 ^ low) = ((xx * 2 ^ low : Nat) : Int) := by simp
  rw [e, wrapu64_nat _ (by omega), show (((xx * 2 ^ low : Nat) : Int) + (yy : Int)) = ((xx * 2 ^ low + yy : Nat) : Int) from by simp, wrapu64_nat _ (by omega), ← h]
  simp

set_option maxRecDepth 100000 in
set_option maxHeartbeats 8000000 in
theorem parts_any (mo : Int) (ao : Option Addr) (n cap : Nat) (K : Nat → Int) (N : Nat → Nat) (D : Nat → Int) (w : World) (h : OpsAt w ao n K N D) :
    Calls Try.prog 7 #[.agg #[.int .i64 mo, .slice ao n cap]] w fun e w' => e = .returned (.bool true) ∧ Below w.heap.size w w' := by
  have HOP : Hid (OpsAt w ao n K N D) := h
  clear h
  go_enter Try.func7, Try.ntmps7
  go_wp2_with fail
  obtain ⟨w1, hw1⟩ : ∃ w1, w1 = w.alloc (.cells #[.int .i64 mo, .slice ao n cap] 24) := ⟨_, rfl⟩
  rw [← hw1]
  have HB1 : Hid (Below w.heap.size w w1) := by rw [hw1]; exact (Below.refl _ _).alloc (Nat.le_refl _) _
  have hs1 : w1.heap.size = w.heap.size + 1 := by rw [hw1]; simp
  have HX : Hid (w1.heap[w.heap.size]? = some (.cells #[.int .i64 mo, .slice ao n cap] 24 (0, 0))) := by rw [hw1]; exact heap_alloc_new _ _
  have HOP1 : Hid (OpsAt w1 ao n K N D) := by
    refine ⟨HOP.out.1, fun hn => ?_, HOP.out.2.2⟩
    obtain ⟨b, off, e, hc⟩ := HOP.out.2.1 hn
    exact ⟨b, off, e, fun j hj => ⟨cell_later HB1.out (hc j hj).1, cell_later HB1.out (hc j hj).2.1, cell_later HB1.out (hc j hj).2.2⟩⟩
  have HB : Hid (w.heap.size + 1 = w1.heap.size) := hs1.symm
  obtain ⟨B, hBe⟩ : ∃ B, B = w.heap.size := ⟨_, rfl⟩
  rw [← hBe] at HX HB ⊢
  have HBE : Hid (B = w.heap.size) := hBe
  clear hw1 HOP hs1 hBe
  refine (newW_any' 67108864 _ _ rfl (by omega)).mono ?_
  rintro e w2 ⟨rfl, hat, hw2⟩
  have HO2 : Hid (OwnW (B + 1) w1 w2 (B + 1) (.slice none 0 0) 67108864 []) := by
    rw [HB.out]
    exact ⟨hat, by rw [hw2]; exact (Below.refl _ _).alloc (Nat.le_refl _) _, Nat.le_refl _, fun k hk => by simp [Value.ownBlock] at hk, by rw [hw2]; simp⟩
  have hs2 : w2.heap.size = B + 2 := by rw [hw2]; simp; have := HB.out; omega
  rw [← HB.out]
  clear hat hw2
  have HS2 : Hid (w2.heap.size = B + 2) := hs2
  clear hs2
  go_wp2_with fail
  refine (newW_any' 67108864 _ _ rfl (by omega)).mono ?_
  rw [HS2.out]
  rintro e w3 ⟨rfl, hat, hw3⟩
  have HT3 : Hid (TwoW (B + 1) w1 w3 (B + 1) (.slice none 0 0) (B + 2) (.slice none 0 0) 67108864 [] []) := by
    have f : Fr (fun _ => False) w2 w3 := by rw [hw3]; exact (Fr.refl _ _).alloc _
    have ho := HO2.out.later f (fun hh => hh) (fun _ _ hh => hh) (fun _ hh => hh.elim)
    exact ⟨ho, ⟨hat, ho.bel, by omega, fun k hk => by simp [Value.ownBlock] at hk, ho.size⟩, by omega, by simp [Value.ownBlock], by simp [Value.ownBlock], fun k hk => by simp [Value.ownBlock] at hk⟩
  clear hat hw3 HO2 HS2
  go_wp2_with fail
  go_loopw [7, 8, 9, 10, 11] (fun i _ _ _ _ wr => ∃ (k : Nat) (va vb : Value) (bs : List Bool), k ≤ n ∧ k ≤ 300 ∧ i = .int .i64 k ∧ Hid (bs.length = sumW D k) ∧ TwoW (B + 1) w1 wr (B + 1) va (B + 2) vb 67108864 bs bs) (fun i _ _ _ _ _ => 300 - (intOf i).toNat)
  case atStart => exact ⟨0, .slice none 0 0, .slice none 0 0, [], Nat.zero_le _, Nat.zero_le _, rfl, rfl, HT3.out⟩
  case round =>
    obtain ⟨k, va, vb, bs, hk1, hk2, rfl, HLN, ht⟩ := hrel
    have HT : Hid (TwoW (B + 1) w1 wr (B + 1) va (B + 2) vb 67108864 bs bs) := ht
    have hnl : n ≤ 9223372036854775807 := HOP1.out.1
    have hbox : wr.heap[B]? = some (.cells #[.int .i64 mo, .slice ao n cap] 24 (0, 0)) := by rw [ht.ha.bel.block B (by omega)]; exact HX.out
    obtain ⟨x0, x1, xf⟩ := cell_of_two hbox
    clear ht HT3 hbox x0 xf
    by_cases hlt : k < n
    · by_cases h300 : k < 300
      · obtain ⟨b, off, rfl, hc⟩ := HOP1.out.2.1 (by omega)
        obtain ⟨e1, e2, e3⟩ := hc k hlt
        have hbl : ∀ j x, w1.cell? ⟨b, j, none⟩ = some x → wr.cell? ⟨b, j, none⟩ = some x := fun j x hx => by
          have hb : b < B + 1 := by rw [HB.out]; exact World.block_lt_of_cell? w1 _ hx
          rw [HT.out.ha.bel.cell (p := ⟨b, j, none⟩) hb]; exact hx
        have g2 := hbl _ _ e2
        have g3 := hbl _ _ e3
        have hNk : Hid (N k < 18446744073709551616) := (HOP1.out.2.2 k hlt).2.1
        have HWD : Hid (D k % ((65 : Nat) : Int) = (widthOf (D k) : Int)) := widthOf_eq (D k)
        have hwl := widthOf_le (D k)
        have HLN2 : Hid (bs.length + widthOf (D k) = sumW D (k + 1)) := by have := HLN.out; show _ = _; simp only [sumW]; omega
        have hbl2 : bs.length ≤ 19200 := by rw [HLN.out]; have := sumW_le D k; omega
        clear hbl e1 e2 e3 hc
        generalize N k = nk at g2 hNk
        go_wp2_with fail
        refine (within_any (D k) 65 _ _ rfl (by omega) (by omega)).mono ?_
        rintro e w3 ⟨rfl, hw3⟩
        rw [HWD.out]
        subst hw3
        clear HWD
        generalize widthOf (D k) = wd at hwl HLN2 ⊢
        have hlow0 : k % (wd + 1) ≤ wd := by have := Nat.mod_lt k (show 0 < wd + 1 from by omega); omega
        have hlowe : ((k : Int) % ((wd : Int) + 1)) = ((k % (wd + 1) : Nat) : Int) := by simp
        generalize k % (wd + 1) = low at hlow0 hlowe
        by_cases h64 : wd < 64
        · have hwrap := wrap_pow wd h64
          have hwrapl := wrap_pow low (by omega)
          obtain ⟨pp, hpp⟩ : ∃ pp : Nat, pp = 2 ^ wd := ⟨_, rfl⟩
          obtain ⟨pl, hpl⟩ : ∃ pl : Nat, pl = 2 ^ low := ⟨_, rfl⟩
          rw [← hpp] at hwrap
          rw [← hpl] at hwrapl
          have hp0 : 0 < pp := by rw [hpp]; exact Nat.pow_pos (by omega)
          have hl0 : 0 < pl := by rw [hpl]; exact Nat.pow_pos (by omega)
          have HPP : Hid (pp = 2 ^ wd) := hpp
          have HPL : Hid (pl = 2 ^ low) := hpl
          clear hpp hpl
          have HV : Hid (nk % pp < 2 ^ wd) := by rw [← HPP.out]; exact Nat.mod_lt _ hp0
          go_wp2_with fail
          rw [show ((nk : Int) % (pp : Int)) = ((nk % pp : Nat) : Int) from by simp]
          generalize nk % pp = val at HV ⊢
          rw [show ((val : Int) % (pl : Int)) = ((val % pl : Nat) : Int) from by simp, hlowe]
          clear hwrap
          refine (put_fits2 (B + 1) va 67108864 bs _ _ val wd _ rfl rfl HT.out.ha.at_ (by omega) HV.out (by omega)).mono ?_
          rintro e w4 ⟨rfl, v4, hat, hst⟩
          have HT4 : Hid (TwoW (B + 1) w1 w4 (B + 1) v4 (B + 2) vb 67108864 (bs ++ bitsOf val wd) bs) := HT.out.step hat hst
          clear hat hst HT
          go_wp2_with fail
          refine (put_fits2 (B + 2) vb 67108864 bs _ _ (val / 2 ^ low) (wd - low) _ (by simp) (by omega) HT4.out.hb.at_ (by omega) (div_lt_parts val wd low hlow0 HV.out) (by omega)).mono ?_
          rintro e w5 ⟨rfl, v5, hat, hst⟩
          have HT5 : Hid (TwoW (B + 1) w1 w5 (B + 1) v4 (B + 2) v5 67108864 (bs ++ bitsOf val wd) (bs ++ bitsOf (val / 2 ^ low) (wd - low))) := (HT4.out.symm.step hat hst).symm
          have hl5 : (bs ++ bitsOf (val / 2 ^ low) (wd - low)).length = bs.length + (wd - low) := by rw [List.length_append, length_bitsOf]
          have HL5 : Hid ((bs ++ bitsOf (val / 2 ^ low) (wd - low)).length = bs.length + (wd - low)) := hl5
          clear hat hst HT4 hl5
          go_wp2_with fail
          refine (put_fits2 (B + 2) v5 67108864 (bs ++ bitsOf (val / 2 ^ low) (wd - low)) _ _ (val % pl) low _ rfl rfl HT5.out.hb.at_ (by omega) (by rw [HPL.out]; exact Nat.mod_lt _ (Nat.pow_pos (by omega))) (by rw [HL5.out]; omega)).mono ?_
          rintro e w6 ⟨rfl, v6, hat, hst⟩
          have HT6 : Hid (TwoW (B + 1) w1 w6 (B + 1) v4 (B + 2) v6 67108864 (bs ++ bitsOf val wd) (bs ++ bitsOf val wd)) := by
            have h6 := (HT5.out.symm.step hat hst).symm
            rw [HPL.out, List.append_assoc, ← bitsOf_parts val wd low hlow0] at h6
            exact h6
          have HL6 : Hid ((bs ++ bitsOf val wd).length = sumW D (k + 1)) := by show _ = _; rw [List.length_append, length_bitsOf]; exact HLN2.out
          clear hat hst HT5 HL5
          go_wp2_with fail
          go_roundw
          case rel => exact ⟨k + 1, v4, v6, bs ++ bitsOf val wd, by omega, by omega, congrArg (Value.int .i64) (by omega), HL6, HT6.out⟩
          case measure => simp [intOf]; omega
        · have HV : Hid (nk < 2 ^ wd) := by rw [show wd = 64 from by omega]; exact hNk.out
          generalize nk = val at HV g2 hNk ⊢
          by_cases hlow : low < 64
          · have hwrapl := wrap_pow low hlow
            obtain ⟨pl, hpl⟩ : ∃ pl : Nat, pl = 2 ^ low := ⟨_, rfl⟩
            rw [← hpl] at hwrapl
            have hl0 : 0 < pl := by rw [hpl]; exact Nat.pow_pos (by omega)
            have HPL : Hid (pl = 2 ^ low) := hpl
            clear hpl
            go_wp2_with fail
            rw [show ((val : Int) % (pl : Int)) = ((val % pl : Nat) : Int) from by simp, hlowe]
            refine (put_fits2 (B + 1) va 67108864 bs _ _ val wd _ rfl rfl HT.out.ha.at_ (by omega) HV.out (by omega)).mono ?_
            rintro e w4 ⟨rfl, v4, hat, hst⟩
            have HT4 : Hid (TwoW (B + 1) w1 w4 (B + 1) v4 (B + 2) vb 67108864 (bs ++ bitsOf val wd) bs) := HT.out.step hat hst
            clear hat hst HT
            go_wp2_with fail
            refine (put_fits2 (B + 2) vb 67108864 bs _ _ (val / 2 ^ low) (wd - low) _ (by simp) (by omega) HT4.out.hb.at_ (by omega) (div_lt_parts val wd low hlow0 HV.out) (by omega)).mono ?_
            rintro e w5 ⟨rfl, v5, hat, hst⟩
            have HT5 : Hid (TwoW (B + 1) w1 w5 (B + 1) v4 (B + 2) v5 67108864 (bs ++ bitsOf val wd) (bs ++ bitsOf (val / 2 ^ low) (wd - low))) := (HT4.out.symm.step hat hst).symm
            have hl5 : (bs ++ bitsOf (val / 2 ^ low) (wd - low)).length = bs.length + (wd - low) := by rw [List.length_append, length_bitsOf]
            have HL5 : Hid ((bs ++ bitsOf (val / 2 ^ low) (wd - low)).length = bs.length + (wd - low)) := hl5
            clear hat hst HT4 hl5
            go_wp2_with fail
            refine (put_fits2 (B + 2) v5 67108864 (bs ++ bitsOf (val / 2 ^ low) (wd - low)) _ _ (val % pl) low _ rfl rfl HT5.out.hb.at_ (by omega) (by rw [HPL.out]; exact Nat.mod_lt _ (Nat.pow_pos (by omega))) (by rw [HL5.out]; omega)).mono ?_
            rintro e w6 ⟨rfl, v6, hat, hst⟩
            have HT6 : Hid (TwoW (B + 1) w1 w6 (B + 1) v4 (B + 2) v6 67108864 (bs ++ bitsOf val wd) (bs ++ bitsOf val wd)) := by
              have h6 := (HT5.out.symm.step hat hst).symm
              rw [HPL.out, List.append_assoc, ← bitsOf_parts val wd low hlow0] at h6
              exact h6
            have HL6 : Hid ((bs ++ bitsOf val wd).length = sumW D (k + 1)) := by show _ = _; rw [List.length_append, length_bitsOf]; exact HLN2.out
            clear hat hst HT5 HL5
            go_wp2_with fail
            go_roundw
            case rel => exact ⟨k + 1, v4, v6, bs ++ bitsOf val wd, by omega, by omega, congrArg (Value.int .i64) (by omega), HL6, HT6.out⟩
            case measure => simp [intOf]; omega
          · go_wp2_with fail
            rw [hlowe]
            refine (put_fits2 (B + 1) va 67108864 bs _ _ val wd _ rfl rfl HT.out.ha.at_ (by omega) HV.out (by omega)).mono ?_
            rintro e w4 ⟨rfl, v4, hat, hst⟩
            have HT4 : Hid (TwoW (B + 1) w1 w4 (B + 1) v4 (B + 2) vb 67108864 (bs ++ bitsOf val wd) bs) := HT.out.step hat hst
            clear hat hst HT
            go_wp2_with fail
            refine (put_fits2 (B + 2) vb 67108864 bs _ _ val low _ rfl rfl HT4.out.hb.at_ (by omega) (by rw [show low = wd from by omega]; exact HV.out) (by omega)).mono ?_
            rintro e w6 ⟨rfl, v6, hat, hst⟩
            have HT6 : Hid (TwoW (B + 1) w1 w6 (B + 1) v4 (B + 2) v6 67108864 (bs ++ bitsOf val wd) (bs ++ bitsOf val wd)) := by
              have h6 := (HT4.out.symm.step hat hst).symm
              rw [show low = wd from by omega] at h6
              exact h6
            have HL6 : Hid ((bs ++ bitsOf val wd).length = sumW D (k + 1)) := by show _ = _; rw [List.length_append, length_bitsOf]; exact HLN2.out
            clear hat hst HT4
            go_wp2_with fail
            go_roundw
            case rel => exact ⟨k + 1, v4, v6, bs ++ bitsOf val wd, by omega, by omega, congrArg (Value.int .i64) (by omega), HL6, HT6.out⟩
            case measure => simp [intOf]; omega
      · have HK : Hid (k = n ∨ k = 300) := by show _ ∨ _; omega
        have hnot : ∀ (x : Bool) (w : World), (Op.unary .not (.bool x)).run Try.prog w = .ok (.bool (!x)) w := fun _ _ => rfl
        have hbsl : bs.length ≤ 19200 := by rw [HLN.out]; have := sumW_le D k; omega
        have hpl : (pack bs).length ≤ 2400 := by rw [length_pack]; omega
        have HPL : Hid ((pack bs).length ≤ 2400) := hpl
        clear hpl hk2
        go_wp2_with fail
        refine (bytes_any (B + 1) va 67108864 bs _ HT.out.ha.at_).mono ?_
        rintro e w4 ⟨ra, rfl, hra, hb4⟩
        have HT4 : Hid (TwoW (B + 1) w1 w4 (B + 1) va (B + 2) vb 67108864 bs bs) := HT.out.later (Fr.of_below hb4 _)
        have HRA : Hid (BytesAt w4 wr.heap.size ra (pack bs)) := hra
        clear hra hb4 HT
        go_wp2_with fail
        refine (bytes_any (B + 2) vb 67108864 bs _ HT4.out.hb.at_).mono ?_
        rintro e w5 ⟨rb, rfl, hrb, hb5⟩
        have HT5 : Hid (TwoW (B + 1) w1 w5 (B + 1) va (B + 2) vb 67108864 bs bs) := HT4.out.later (Fr.of_below hb5 _)
        have HSA : Hid (SeenAt w5 ra (pack bs)) := SeenAt.of_row (base := wr.heap.size) (row_kept HRA.out (Fr.of_below hb5 (fun _ => False)) (fun _ _ hh => hh)) (by have := HPL.out; omega)
        have HSB : Hid (SeenAt w5 rb (pack bs)) := SeenAt.of_row hrb (by have := HPL.out; omega)
        clear hrb hb5 HT4 HRA
        go_wp2_with fail
        refine (eq_same ra rb (pack bs) (pack bs) _ HSA.out HSB.out rfl true (by show true = _; simp)).mono ?_
        rintro e w6 ⟨rfl, q, hw6⟩
        have HT6 : Hid (TwoW (B + 1) w1 w6 (B + 1) va (B + 2) vb 67108864 bs bs) := by rw [hw6]; exact HT5.out.later ((Fr.refl _ _).drewN q)
        clear hw6 HT5 HSA HSB
        go_wp2_with fail
        refine (len_any (B + 1) va 67108864 bs _ HT6.out.ha.at_).mono ?_
        rintro e w7 ⟨rfl, hw7⟩
        subst hw7
        go_wp2_with fail
        refine (len_any (B + 2) vb 67108864 bs _ HT6.out.hb.at_).mono ?_
        rintro e w7 ⟨rfl, hw7⟩
        subst hw7
        have hq : ((bs.length : Int) != (bs.length : Int)) = false := by simp
        go_wp2_with fail
        refine (bytes_any (B + 1) va 67108864 bs _ HT6.out.ha.at_).mono ?_
        rintro e w8 ⟨rc, rfl, hrc, hb8⟩
        have HT8 : Hid (TwoW (B + 1) w1 w8 (B + 1) va (B + 2) vb 67108864 bs bs) := HT6.out.later (Fr.of_below hb8 _)
        have HRC : Hid (BytesAt w8 _ rc (pack bs)) := hrc
        clear hrc hb8 HT6 hq
        go_wp2_with fail
        refine (newR_row rc _ (pack bs) _ HRC.out (by have := HPL.out; omega) (pack_lt bs)).mono ?_
        rintro e w9 ⟨r, vr, rfl, hr9, hb9, hrb9, hrr9⟩
        have HT9 : Hid (TwoW (B + 1) w1 w9 (B + 1) va (B + 2) vb 67108864 bs bs) := HT8.out.later (Fr.of_below hb9 _)
        have HR9 : Hid (RAt w9 r vr (pack bs) 0) := hr9
        have hrB : Hid (B + 1 ≤ r) := Nat.le_trans HT8.out.ha.size hrb9
        clear hr9 hb9 hrb9 hrr9 HT8 HRC
        go_wp2_with fail
        refine (bytes_any (B + 1) va 67108864 bs _ HT9.out.ha.at_).mono ?_
        rintro e w10 ⟨rd, rfl, hrd, hb10⟩
        have HT10 : Hid (TwoW (B + 1) w1 w10 (B + 1) va (B + 2) vb 67108864 bs bs) := HT9.out.later (Fr.of_below hb10 _)
        have HR10 : Hid (RAt w10 r vr (pack bs) 0) := HR9.out.kept (Fr.of_below hb10 (fun _ => False)) (fun hh => hh) (fun _ _ hh => hh)
        have HRD : Hid (BytesAt w10 _ rd (pack bs)) := hrd
        clear hrd hb10 HT9 HR9
        go_wp2_with fail
        refine (newR_row rd _ (pack bs) _ HRD.out (by have := HPL.out; omega) (pack_lt bs)).mono ?_
        rintro e w11 ⟨s, vs, rfl, hs11, hb11, hsb11, hsr11⟩
        have HB11 : Hid (Below (B + 1) w1 w11) := HT10.out.ha.bel.trans (hb11.mono HT10.out.ha.size)
        have HR11 : Hid (RAt w11 r vr (pack bs) 0) := HR10.out.kept (Fr.of_below hb11 (fun _ => False)) (fun hh => hh) (fun _ _ hh => hh)
        have HS11 : Hid (RAt w11 s vs (pack bs) 0) := hs11
        have hsB : Hid (B + 1 ≤ s) := Nat.le_trans HT10.out.ha.size hsb11
        have hrs : Hid (r ≠ s ∧ vr.ownBlock ≠ some s ∧ vs.ownBlock ≠ some r) := by
          have h1 := HR10.out.lt
          refine ⟨by omega, fun e => by have := HR10.out.rowlt _ e; omega, fun e => by have := hsr11 _ e; omega⟩
        have HSL : Hid (sumW D k ≤ 8 * (pack bs).length) := by show _ ≤ _; rw [length_pack, ← HLN.out]; omega
        have HBY : Hid (∀ x ∈ pack bs, x < 256) := pack_lt bs
        clear hs11 hb11 hsb11 hsr11 HT10 HR10 HRD hbsl
        generalize pack bs = l at HPL HR11 HS11 HSL HBY
        obtain ⟨kk, hkk⟩ : ∃ kk, kk = k := ⟨_, rfl⟩
        have HKK : Hid (kk = n ∨ kk = 300) := by rw [hkk]; exact HK.out
        have HSL2 : Hid (sumW D kk ≤ 8 * l.length) := by rw [hkk]; exact HSL.out
        clear HK HSL HLN hkk
        go_wp2_with fail
        go_loopw [14, 15, 16, 17, 18, 19, 20, 21, 22] (fun i _ _ _ _ _ _ _ _ wr => ∃ (j p : Nat), j ≤ n ∧ j ≤ 300 ∧ i = .int .i64 j ∧ Hid (p = sumW D j) ∧ RAt wr r vr l p ∧ RAt wr s vs l p ∧ Below (B + 1) w1 wr) (fun i _ _ _ _ _ _ _ _ _ => 300 - (intOf i).toNat)
        case atStart => exact ⟨0, 0, Nat.zero_le _, Nat.zero_le _, rfl, rfl, HR11.out, HS11.out, HB11.out⟩
        case round =>
          obtain ⟨j, p, hj1, hj2, rfl, HPE, hr, hs, hbel⟩ := hrel
          have HR : Hid (RAt wr r vr l p) := hr
          have HSS : Hid (RAt wr s vs l p) := hs
          have HBB : Hid (Below (B + 1) w1 wr) := hbel
          have hbox : wr.heap[B]? = some (.cells #[.int .i64 mo, .slice ao n cap] 24 (0, 0)) := by rw [hbel.block B (by omega)]; exact HX.out
          obtain ⟨x0, x1, xf⟩ := cell_of_two hbox
          clear hr hs hbel hbox x0 xf HR11 HS11 HB11
          by_cases hjlt : j < n
          · by_cases hj300 : j < 300
            · have hjk : j < kk := by have := HKK.out; omega
              obtain ⟨b, off, rfl, hc⟩ := HOP1.out.2.1 (by omega)
              obtain ⟨e1, e2, e3⟩ := hc j hjlt
              have g3 : wr.cell? ⟨b, off + j * 3 + 2, none⟩ = some (.int .i64 (D j)) := by
                have hb : b < B + 1 := by rw [HB.out]; exact World.block_lt_of_cell? w1 _ e3
                rw [HBB.out.cell (p := ⟨b, off + j * 3 + 2, none⟩) hb]; exact e3
              have HWD : Hid (D j % ((65 : Nat) : Int) = (widthOf (D j) : Int)) := widthOf_eq (D j)
              have hwl := widthOf_le (D j)
              have hpw : p + widthOf (D j) ≤ 8 * l.length := by
                have h1 := sumW_next D j kk hjk
                have h2 := HSL2.out
                rw [HPE.out]; omega
              have HPN : Hid (p + widthOf (D j) = sumW D (j + 1)) := by show _ = _; rw [HPE.out]; rfl
              clear e1 e2 e3 hc
              go_wp2_with fail
              refine (within_any (D j) 65 _ _ rfl (by omega) (by omega)).mono ?_
              rintro e w12 ⟨rfl, hw12⟩
              rw [HWD.out]
              subst hw12
              clear HWD
              generalize widthOf (D j) = wd at hwl hpw HPN ⊢
              have hlow0 : j % (wd + 1) ≤ wd := by have := Nat.mod_lt j (show 0 < wd + 1 from by omega); omega
              have hlowe : ((j : Int) % ((wd : Int) + 1)) = ((j % (wd + 1) : Nat) : Int) := by simp
              generalize j % (wd + 1) = low at hlow0 hlowe
              go_wp2_with fail
              rw [hlowe]
              refine (take_any r vr l p wd _ HR.out hwl hpw).mono ?_
              rintro e w13 ⟨rfl, hr13, hf13⟩
              have HR13 : Hid (RAt w13 r vr l (p + wd)) := hr13
              have HS13 : Hid (RAt w13 s vs l p) := HSS.out.kept hf13 (fun e => hrs.out.1 e.symm) (fun k hk e => hrs.out.2.2 (by rw [hk, e]))
              have HB13 : Hid (Below (B + 1) w1 w13) := HBB.out.trans (hf13.below (by have := HBB.out.size; have := HB.out; omega) (fun k hk e => by have := hrB.out; omega))
              clear hr13 hf13 HR HSS HBB
              go_wp2_with fail
              refine (take_any' s vs l p (wd - low) _ _ (by omega) HS13.out (by omega) (by omega)).mono ?_
              rintro e w14 ⟨rfl, hs14, hf14⟩
              have HS14 : Hid (RAt w14 s vs l (p + (wd - low))) := hs14
              have HR14 : Hid (RAt w14 r vr l (p + wd)) := HR13.out.kept hf14 (fun e => hrs.out.1 e) (fun k hk e => hrs.out.2.1 (by rw [hk, e]))
              have HB14 : Hid (Below (B + 1) w1 w14) := HB13.out.trans (hf14.below (by have := HB13.out.size; have := HB.out; omega) (fun k hk e => by have := hsB.out; omega))
              clear hs14 hf14 HR13 HS13 HB13
              go_wp2_with fail
              refine (take_any s vs l (p + (wd - low)) low _ HS14.out (by omega) (by omega)).mono ?_
              rintro e w15 ⟨rfl, hs15, hf15⟩
              have HS15 : Hid (RAt w15 s vs l (p + wd)) := by
                rw [show p + (wd - low) + low = p + wd from by omega] at hs15; exact hs15
              have HR15 : Hid (RAt w15 r vr l (p + wd)) := HR14.out.kept hf15 (fun e => hrs.out.1 e) (fun k hk e => hrs.out.2.1 (by rw [hk, e]))
              have HB15 : Hid (Below (B + 1) w1 w15) := HB14.out.trans (hf15.below (by have := HB14.out.size; have := HB.out; omega) (fun k hk e => by have := hsB.out; omega))
              clear hs15 hf15 HR14 HS14 HB14
              have HNP : Hid (num (nextBits l p wd) = num (nextBits l p (wd - low)) * 2 ^ low + num (nextBits l (p + (wd - low)) low)) := num_parts l p wd low hlow0 hpw
              have HNL : Hid (num (nextBits l p wd) < 18446744073709551616) := by
                have h1 := num_lt (nextBits l p wd)
                rw [length_nextBits _ _ _ hpw] at h1
                exact Nat.lt_of_lt_of_le h1 (Nat.pow_le_pow_right (by omega) hwl)
              have HX0 : Hid (low = wd → num (nextBits l p (wd - low)) = 0) := fun e => by rw [e, Nat.sub_self]; rfl
              generalize num (nextBits l p wd) = nn at HNP HNL ⊢
              generalize num (nextBits l p (wd - low)) = xx at HNP HX0 ⊢
              generalize num (nextBits l (p + (wd - low)) low) = yy at HNP ⊢
              by_cases hlow : low < 64
              · have hq1 : ((nn : Int) != IntKind.u64.wrap (IntKind.u64.wrap ((xx : Int) * 2 ^ low) + (yy : Int))) = false := parts_test nn xx yy low HNP.out HNL.out
                have hq2 : ((low : Int) == 64) = false := by simp; omega
                go_wp2_with fail
                go_roundw
                case rel => exact ⟨j + 1, p + wd, by omega, by omega, congrArg (Value.int .i64) (by omega), HPN, HR15.out, HS15.out, HB15.out⟩
                case measure => simp [intOf]; omega
              · have hq1 : ((low : Int) == 64) = true := by simp; omega
                have hxy : nn = yy := by have h1 := HNP.out; rw [HX0.out (by omega)] at h1; omega
                have hq2 : ((nn : Int) != (yy : Int)) = false := by simp; omega
                clear hxy
                go_wp2_with fail
                go_roundw
                case rel => exact ⟨j + 1, p + wd, by omega, by omega, congrArg (Value.int .i64) (by omega), HPN, HR15.out, HS15.out, HB15.out⟩
                case measure => simp [intOf]; omega
            · go_wp2_with fail
              refine (left_any r vr l p _ HR.out).mono ?_
              rintro e w16 ⟨rfl, q16, hw16⟩
              have HS16 : Hid (RAt w16 s vs l p) := by rw [hw16]; exact HSS.out.drewN q16
              have HB16 : Hid (Below (B + 1) w1 w16) := by rw [hw16]; exact below_drewN HBB.out q16
              clear hw16 HR HSS HBB
              go_wp2_with fail
              refine (left_any s vs l p _ HS16.out).mono ?_
              rintro e w17 ⟨rfl, q17, hw17⟩
              have HB17 : Hid (Below (B + 1) w1 w17) := by rw [hw17]; exact below_drewN HB16.out q17
              generalize 8 * l.length - p = lf
              have hq3 : ((lf : Int) == (lf : Int)) = true := by simp
              clear hw17 HS16 HB16
              go_wp2_with fail
              refine (wakes_any _).mono ?_
              rintro e w18 ⟨rfl, hb18⟩
              have HB18 : Hid (Below B w w18) := by
                have h1 := HB1.out
                rw [← HBE.out] at h1
                exact h1.trans ((HB17.out.mono (by omega)).trans (hb18.mono (by have := HB17.out.size; have := HB.out; omega)))
              clear hb18
              go_wp2_with fail
              go_ret
              refine ⟨rfl, ?_⟩
              rw [← HBE.out]
              exact HB18.out
          · exfalso; omega
    · have HK : Hid (k = n ∨ k = 300) := by show _ ∨ _; omega
      have hnot : ∀ (x : Bool) (w : World), (Op.unary .not (.bool x)).run Try.prog w = .ok (.bool (!x)) w := fun _ _ => rfl
      have hbsl : bs.length ≤ 19200 := by rw [HLN.out]; have := sumW_le D k; omega
      have hpl : (pack bs).length ≤ 2400 := by rw [length_pack]; omega
      have HPL : Hid ((pack bs).length ≤ 2400) := hpl
      clear hpl hk2
      go_wp2_with fail
      refine (bytes_any (B + 1) va 67108864 bs _ HT.out.ha.at_).mono ?_
      rintro e w4 ⟨ra, rfl, hra, hb4⟩
      have HT4 : Hid (TwoW (B + 1) w1 w4 (B + 1) va (B + 2) vb 67108864 bs bs) := HT.out.later (Fr.of_below hb4 _)
      have HRA : Hid (BytesAt w4 wr.heap.size ra (pack bs)) := hra
      clear hra hb4 HT
      go_wp2_with fail
      refine (bytes_any (B + 2) vb 67108864 bs _ HT4.out.hb.at_).mono ?_
      rintro e w5 ⟨rb, rfl, hrb, hb5⟩
      have HT5 : Hid (TwoW (B + 1) w1 w5 (B + 1) va (B + 2) vb 67108864 bs bs) := HT4.out.later (Fr.of_below hb5 _)
      have HSA : Hid (SeenAt w5 ra (pack bs)) := SeenAt.of_row (base := wr.heap.size) (row_kept HRA.out (Fr.of_below hb5 (fun _ => False)) (fun _ _ hh => hh)) (by have := HPL.out; omega)
      have HSB : Hid (SeenAt w5 rb (pack bs)) := SeenAt.of_row hrb (by have := HPL.out; omega)
      clear hrb hb5 HT4 HRA
      go_wp2_with fail
      refine (eq_same ra rb (pack bs) (pack bs) _ HSA.out HSB.out rfl true (by show true = _; simp)).mono ?_
      rintro e w6 ⟨rfl, q, hw6⟩
      have HT6 : Hid (TwoW (B + 1) w1 w6 (B + 1) va (B + 2) vb 67108864 bs bs) := by rw [hw6]; exact HT5.out.later ((Fr.refl _ _).drewN q)
      clear hw6 HT5 HSA HSB
      go_wp2_with fail
      refine (len_any (B + 1) va 67108864 bs _ HT6.out.ha.at_).mono ?_
      rintro e w7 ⟨rfl, hw7⟩
      subst hw7
      go_wp2_with fail
      refine (len_any (B + 2) vb 67108864 bs _ HT6.out.hb.at_).mono ?_
      rintro e w7 ⟨rfl, hw7⟩
      subst hw7
      have hq : ((bs.length : Int) != (bs.length : Int)) = false := by simp
      go_wp2_with fail
      refine (bytes_any (B + 1) va 67108864 bs _ HT6.out.ha.at_).mono ?_
      rintro e w8 ⟨rc, rfl, hrc, hb8⟩
      have HT8 : Hid (TwoW (B + 1) w1 w8 (B + 1) va (B + 2) vb 67108864 bs bs) := HT6.out.later (Fr.of_below hb8 _)
      have HRC : Hid (BytesAt w8 _ rc (pack bs)) := hrc
      clear hrc hb8 HT6 hq
      go_wp2_with fail
      refine (newR_row rc _ (pack bs) _ HRC.out (by have := HPL.out; omega) (pack_lt bs)).mono ?_
      rintro e w9 ⟨r, vr, rfl, hr9, hb9, hrb9, hrr9⟩
      have HT9 : Hid (TwoW (B + 1) w1 w9 (B + 1) va (B + 2) vb 67108864 bs bs) := HT8.out.later (Fr.of_below hb9 _)
      have HR9 : Hid (RAt w9 r vr (pack bs) 0) := hr9
      have hrB : Hid (B + 1 ≤ r) := Nat.le_trans HT8.out.ha.size hrb9
      clear hr9 hb9 hrb9 hrr9 HT8 HRC
      go_wp2_with fail
      refine (bytes_any (B + 1) va 67108864 bs _ HT9.out.ha.at_).mono ?_
      rintro e w10 ⟨rd, rfl, hrd, hb10⟩
      have HT10 : Hid (TwoW (B + 1) w1 w10 (B + 1) va (B + 2) vb 67108864 bs bs) := HT9.out.later (Fr.of_below hb10 _)
      have HR10 : Hid (RAt w10 r vr (pack bs) 0) := HR9.out.kept (Fr.of_below hb10 (fun _ => False)) (fun hh => hh) (fun _ _ hh => hh)
      have HRD : Hid (BytesAt w10 _ rd (pack bs)) := hrd
      clear hrd hb10 HT9 HR9
      go_wp2_with fail
      refine (newR_row rd _ (pack bs) _ HRD.out (by have := HPL.out; omega) (pack_lt bs)).mono ?_
      rintro e w11 ⟨s, vs, rfl, hs11, hb11, hsb11, hsr11⟩
      have HB11 : Hid (Below (B + 1) w1 w11) := HT10.out.ha.bel.trans (hb11.mono HT10.out.ha.size)
      have HR11 : Hid (RAt w11 r vr (pack bs) 0) := HR10.out.kept (Fr.of_below hb11 (fun _ => False)) (fun hh => hh) (fun _ _ hh => hh)
      have HS11 : Hid (RAt w11 s vs (pack bs) 0) := hs11
      have hsB : Hid (B + 1 ≤ s) := Nat.le_trans HT10.out.ha.size hsb11
      have hrs : Hid (r ≠ s ∧ vr.ownBlock ≠ some s ∧ vs.ownBlock ≠ some r) := by
        have h1 := HR10.out.lt
        refine ⟨by omega, fun e => by have := HR10.out.rowlt _ e; omega, fun e => by have := hsr11 _ e; omega⟩
      have HSL : Hid (sumW D k ≤ 8 * (pack bs).length) := by show _ ≤ _; rw [length_pack, ← HLN.out]; omega
      have HBY : Hid (∀ x ∈ pack bs, x < 256) := pack_lt bs
      clear hs11 hb11 hsb11 hsr11 HT10 HR10 HRD hbsl
      generalize pack bs = l at HPL HR11 HS11 HSL HBY
      obtain ⟨kk, hkk⟩ : ∃ kk, kk = k := ⟨_, rfl⟩
      have HKK : Hid (kk = n ∨ kk = 300) := by rw [hkk]; exact HK.out
      have HSL2 : Hid (sumW D kk ≤ 8 * l.length) := by rw [hkk]; exact HSL.out
      clear HK HSL HLN hkk
      go_wp2_with fail
      go_loopw [14, 15, 16, 17, 18, 19, 20, 21, 22] (fun i _ _ _ _ _ _ _ _ wr => ∃ (j p : Nat), j ≤ n ∧ j ≤ 300 ∧ i = .int .i64 j ∧ Hid (p = sumW D j) ∧ RAt wr r vr l p ∧ RAt wr s vs l p ∧ Below (B + 1) w1 wr) (fun i _ _ _ _ _ _ _ _ _ => 300 - (intOf i).toNat)
      case atStart => exact ⟨0, 0, Nat.zero_le _, Nat.zero_le _, rfl, rfl, HR11.out, HS11.out, HB11.out⟩
      case round =>
        obtain ⟨j, p, hj1, hj2, rfl, HPE, hr, hs, hbel⟩ := hrel
        have HR : Hid (RAt wr r vr l p) := hr
        have HSS : Hid (RAt wr s vs l p) := hs
        have HBB : Hid (Below (B + 1) w1 wr) := hbel
        have hbox : wr.heap[B]? = some (.cells #[.int .i64 mo, .slice ao n cap] 24 (0, 0)) := by rw [hbel.block B (by omega)]; exact HX.out
        obtain ⟨x0, x1, xf⟩ := cell_of_two hbox
        clear hr hs hbel hbox x0 xf HR11 HS11 HB11
        by_cases hjlt : j < n
        · by_cases hj300 : j < 300
          · have hjk : j < kk := by have := HKK.out; omega
            obtain ⟨b, off, rfl, hc⟩ := HOP1.out.2.1 (by omega)
            obtain ⟨e1, e2, e3⟩ := hc j hjlt
            have g3 : wr.cell? ⟨b, off + j * 3 + 2, none⟩ = some (.int .i64 (D j)) := by
              have hb : b < B + 1 := by rw [HB.out]; exact World.block_lt_of_cell? w1 _ e3
              rw [HBB.out.cell (p := ⟨b, off + j * 3 + 2, none⟩) hb]; exact e3
            have HWD : Hid (D j % ((65 : Nat) : Int) = (widthOf (D j) : Int)) := widthOf_eq (D j)
            have hwl := widthOf_le (D j)
            have hpw : p + widthOf (D j) ≤ 8 * l.length := by
              have h1 := sumW_next D j kk hjk
              have h2 := HSL2.out
              rw [HPE.out]; omega
            have HPN : Hid (p + widthOf (D j) = sumW D (j + 1)) := by show _ = _; rw [HPE.out]; rfl
            clear e1 e2 e3 hc
            go_wp2_with fail
            refine (within_any (D j) 65 _ _ rfl (by omega) (by omega)).mono ?_
            rintro e w12 ⟨rfl, hw12⟩
            rw [HWD.out]
            subst hw12
            clear HWD
            generalize widthOf (D j) = wd at hwl hpw HPN ⊢
            have hlow0 : j % (wd + 1) ≤ wd := by have := Nat.mod_lt j (show 0 < wd + 1 from by omega); omega
            have hlowe : ((j : Int) % ((wd : Int) + 1)) = ((j % (wd + 1) : Nat) : Int) := by simp
            generalize j % (wd + 1) = low at hlow0 hlowe
            go_wp2_with fail
            rw [hlowe]
            refine (take_any r vr l p wd _ HR.out hwl hpw).mono ?_
            rintro e w13 ⟨rfl, hr13, hf13⟩
            have HR13 : Hid (RAt w13 r vr l (p + wd)) := hr13
            have HS13 : Hid (RAt w13 s vs l p) := HSS.out.kept hf13 (fun e => hrs.out.1 e.symm) (fun k hk e => hrs.out.2.2 (by rw [hk, e]))
            have HB13 : Hid (Below (B + 1) w1 w13) := HBB.out.trans (hf13.below (by have := HBB.out.size; have := HB.out; omega) (fun k hk e => by have := hrB.out; omega))
            clear hr13 hf13 HR HSS HBB
            go_wp2_with fail
            refine (take_any' s vs l p (wd - low) _ _ (by omega) HS13.out (by omega) (by omega)).mono ?_
            rintro e w14 ⟨rfl, hs14, hf14⟩
            have HS14 : Hid (RAt w14 s vs l (p + (wd - low))) := hs14
            have HR14 : Hid (RAt w14 r vr l (p + wd)) := HR13.out.kept hf14 (fun e => hrs.out.1 e) (fun k hk e => hrs.out.2.1 (by rw [hk, e]))
            have HB14 : Hid (Below (B + 1) w1 w14) := HB13.out.trans (hf14.below (by have := HB13.out.size; have := HB.out; omega) (fun k hk e => by have := hsB.out; omega))
            clear hs14 hf14 HR13 HS13 HB13
            go_wp2_with fail
            refine (take_any s vs l (p + (wd - low)) low _ HS14.out (by omega) (by omega)).mono ?_
            rintro e w15 ⟨rfl, hs15, hf15⟩
            have HS15 : Hid (RAt w15 s vs l (p + wd)) := by
              rw [show p + (wd - low) + low = p + wd from by omega] at hs15; exact hs15
            have HR15 : Hid (RAt w15 r vr l (p + wd)) := HR14.out.kept hf15 (fun e => hrs.out.1 e) (fun k hk e => hrs.out.2.1 (by rw [hk, e]))
            have HB15 : Hid (Below (B + 1) w1 w15) := HB14.out.trans (hf15.below (by have := HB14.out.size; have := HB.out; omega) (fun k hk e => by have := hsB.out; omega))
            clear hs15 hf15 HR14 HS14 HB14
            have HNP : Hid (num (nextBits l p wd) = num (nextBits l p (wd - low)) * 2 ^ low + num (nextBits l (p + (wd - low)) low)) := num_parts l p wd low hlow0 hpw
            have HNL : Hid (num (nextBits l p wd) < 18446744073709551616) := by
              have h1 := num_lt (nextBits l p wd)
              rw [length_nextBits _ _ _ hpw] at h1
              exact Nat.lt_of_lt_of_le h1 (Nat.pow_le_pow_right (by omega) hwl)
            have HX0 : Hid (low = wd → num (nextBits l p (wd - low)) = 0) := fun e => by rw [e, Nat.sub_self]; rfl
            generalize num (nextBits l p wd) = nn at HNP HNL ⊢
            generalize num (nextBits l p (wd - low)) = xx at HNP HX0 ⊢
            generalize num (nextBits l (p + (wd - low)) low) = yy at HNP ⊢
            by_cases hlow : low < 64
            · have hq1 : ((nn : Int) != IntKind.u64.wrap (IntKind.u64.wrap ((xx : Int) * 2 ^ low) + (yy : Int))) = false := parts_test nn xx yy low HNP.out HNL.out
              have hq2 : ((low : Int) == 64) = false := by simp; omega
              go_wp2_with fail
              go_roundw
              case rel => exact ⟨j + 1, p + wd, by omega, by omega, congrArg (Value.int .i64) (by omega), HPN, HR15.out, HS15.out, HB15.out⟩
              case measure => simp [intOf]; omega
            · have hq1 : ((low : Int) == 64) = true := by simp; omega
              have hxy : nn = yy := by have h1 := HNP.out; rw [HX0.out (by omega)] at h1; omega
              have hq2 : ((nn : Int) != (yy : Int)) = false := by simp; omega
              clear hxy
              go_wp2_with fail
              go_roundw
              case rel => exact ⟨j + 1, p + wd, by omega, by omega, congrArg (Value.int .i64) (by omega), HPN, HR15.out, HS15.out, HB15.out⟩
              case measure => simp [intOf]; omega
          · go_wp2_with fail
            refine (left_any r vr l p _ HR.out).mono ?_
            rintro e w16 ⟨rfl, q16, hw16⟩
            have HS16 : Hid (RAt w16 s vs l p) := by rw [hw16]; exact HSS.out.drewN q16
            have HB16 : Hid (Below (B + 1) w1 w16) := by rw [hw16]; exact below_drewN HBB.out q16
            clear hw16 HR HSS HBB
            go_wp2_with fail
            refine (left_any s vs l p _ HS16.out).mono ?_
            rintro e w17 ⟨rfl, q17, hw17⟩
            have HB17 : Hid (Below (B + 1) w1 w17) := by rw [hw17]; exact below_drewN HB16.out q17
            generalize 8 * l.length - p = lf
            have hq3 : ((lf : Int) == (lf : Int)) = true := by simp
            clear hw17 HS16 HB16
            go_wp2_with fail
            refine (wakes_any _).mono ?_
            rintro e w18 ⟨rfl, hb18⟩
            have HB18 : Hid (Below B w w18) := by
              have h1 := HB1.out
              rw [← HBE.out] at h1
              exact h1.trans ((HB17.out.mono (by omega)).trans (hb18.mono (by have := HB17.out.size; have := HB.out; omega)))
            clear hb18
            go_wp2_with fail
            go_ret
            refine ⟨rfl, ?_⟩
            rw [← HBE.out]
            exact HB18.out
        · go_wp2_with fail
          refine (left_any r vr l p _ HR.out).mono ?_
          rintro e w16 ⟨rfl, q16, hw16⟩
          have HS16 : Hid (RAt w16 s vs l p) := by rw [hw16]; exact HSS.out.drewN q16
          have HB16 : Hid (Below (B + 1) w1 w16) := by rw [hw16]; exact below_drewN HBB.out q16
          clear hw16 HR HSS HBB
          go_wp2_with fail
          refine (left_any s vs l p _ HS16.out).mono ?_
          rintro e w17 ⟨rfl, q17, hw17⟩
          have HB17 : Hid (Below (B + 1) w1 w17) := by rw [hw17]; exact below_drewN HB16.out q17
          generalize 8 * l.length - p = lf
          have hq3 : ((lf : Int) == (lf : Int)) = true := by simp
          clear hw17 HS16 HB16
          go_wp2_with fail
          refine (wakes_any _).mono ?_
          rintro e w18 ⟨rfl, hb18⟩
          have HB18 : Hid (Below B w w18) := by
            have h1 := HB1.out
            rw [← HBE.out] at h1
            exact h1.trans ((HB17.out.mono (by omega)).trans (hb18.mono (by have := HB17.out.size; have := HB.out; omega)))
          clear hb18
          go_wp2_with fail
          go_ret
          refine ⟨rfl, ?_⟩
          rw [← HBE.out]
          exact HB18.out

end Go.Proofs.Ythfimeaajboihaa
