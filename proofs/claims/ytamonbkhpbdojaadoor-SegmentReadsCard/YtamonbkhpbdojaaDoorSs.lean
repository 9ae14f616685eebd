/- Segments' headers: 'header'. -/
import Derived.Test.YtamonbkhpbdojaaDoorSr
namespace Go.Proofs.YtamonbkhpbdojaaDoor
set_option maxRecDepth 100000
open Go.RowKit

def HdrP (w : World) (s : Seg) (d : Nat) (e : Ending) (w' : World) : Prop := ∃ rv, e = .returned rv ∧ BytesAt w' w.heap.size rv (hdrB s d) ∧ Fr (fun _ => False) w w'

set_option maxHeartbeats 8000000 in
theorem header_any (s : Seg) (D : List Nat) (vr vk vd : Value) (w : World) (h : SgAt w (ofSeg s D) vr vk vd) (ok : OkS s D.length) :
    Calls Tryd.prog 21 #[sgV (ofSeg s D) vr vk vd] w (HdrP w s D.length) := by
  have HH : Hid (SgAt w (ofSeg s D) vr vk vd) := h
  have HRM := (show Hid _ from hb_room ok)
  have HPK : Hid (pack (hbE s D.length) = hdrB s D.length) := hbE_pack ok
  have n1 := ok.num
  have n2 := Nat.le_trans ok.p2 (rHi_le _)
  have n3 := Nat.le_trans ok.many (mostN_le _ _)
  have n4 := Nat.le_trans ok.data (rData_le _)
  have n5 := ok.k2
  have n6 := ok.keep
  have HRI : Hid (∀ k, k < s.refs.length → s.refs[k]?.getD 0 ≤ 32767) := fun k hk => by
    rw [List.getElem?_eq_getElem hk]
    have := ris_le _ _ _ ok.rise _ (List.getElem_mem hk)
    simp only [Option.getD_some]; omega
  have HREF : Hid (∀ w', Fr (fun _ => False) w w' → ∀ ao c, vr = .slice ao s.refs.length c → s.refs.length ≠ 0 → ∃ b off, ao = some ⟨b, off, none⟩ ∧ ∀ j, j < s.refs.length → w'.cell? ⟨b, off + j, none⟩ = some (.int .i64 (s.refs[j]?.getD 0 : Nat))) := fun w' f ao c hv hz => by
    obtain ⟨ao', c', hv', _, hc⟩ := (h.refs.kept f)
    rw [hv'] at hv
    simp only [Value.slice.injEq] at hv
    obtain ⟨rfl, _, _⟩ := hv
    obtain ⟨b, off, e, hc⟩ := hc (ne_nil_i (fun e => hz (by simpa [ofSeg] using e)))
    refine ⟨b, off, e, fun j hj => ?_⟩
    rw [hc j (by rw [length_iCells]; simpa [ofSeg] using hj), iCells_get _ j (by simpa [ofSeg] using hj)]
    simp [ofSeg, hj]
  have HKEP : Hid (∀ w', Fr (fun _ => False) w w' → ∀ ao c, vk = .slice ao s.keep.length c → s.keep.length ≠ 0 → ∃ b off, ao = some ⟨b, off, none⟩ ∧ ∀ j, j < s.keep.length → w'.cell? ⟨b, off + j, none⟩ = some (.bool (s.keep[j]?.getD false))) := fun w' f ao c hv hz => by
    obtain ⟨ao', c', hv', _, hc⟩ := (h.keep.kept f)
    rw [hv'] at hv
    simp only [Value.slice.injEq] at hv
    obtain ⟨rfl, _, _⟩ := hv
    obtain ⟨b, off, e, hc⟩ := hc (ne_nil_b (fun e => hz (by rw [show s.keep = [] from e]; rfl)))
    refine ⟨b, off, e, fun j hj => ?_⟩
    rw [hc j (by rw [length_boolCells]; exact hj)]
    exact boolCells_get s.keep j hj
  obtain ⟨ao1, c1, rfl⟩ := h.refs.slice
  obtain ⟨ao2, c2, rfl⟩ := h.keep.slice
  obtain ⟨ao3, c3, rfl⟩ := h.data.slice
  clear h HH
  rw [length_iCells, length_boolCells, length_byteCells] at *
  simp only [sgV, ofSeg, List.length_map] at *
  have HZ0 : Hid (hb0 s = (((([] ++ varBits s.num) ++ bitsOf s.kind 8) ++ varBits s.page) ++ varBits s.refs.length)) := by show _ = _; unfold hb0; simp
  have HOK : Hid (s.num ≤ 32767 ∧ s.kind ≤ 7 ∧ s.page ≤ 64 ∧ s.refs.length ≤ 32767 ∧ s.keep.length = s.refs.length ∧ D.length ≤ 67108864) := ⟨n1, n5, n2, by omega, n6, n4⟩
  have c1' : IntKind.u64.wrap (s.num : Int) = (s.num : Int) := by rw [IntKind.wrap_u64]; omega
  have c2' : IntKind.u64.wrap (s.kind : Int) = (s.kind : Int) := by rw [IntKind.wrap_u64]; omega
  have c3' : IntKind.u64.wrap (s.page : Int) = (s.page : Int) := by rw [IntKind.wrap_u64]; omega
  have c4' : IntKind.u64.wrap (s.refs.length : Int) = (s.refs.length : Int) := by rw [IntKind.wrap_u64]; omega
  have c5' : IntKind.u64.wrap (D.length : Int) = (D.length : Int) := by rw [IntKind.wrap_u64]; omega
  clear n1 n2 n3 n4 n5 n6 ok
  have HF1 : Hid (Fr (fun _ => False) w (w.alloc (.cells #[.int .i64 (s.num : Int), .int .i64 (s.kind : Int), .int .i64 (s.page : Int), .slice ao1 s.refs.length c1, .slice ao2 s.keep.length c2, .bool s.stay, .slice ao3 D.length c3] 27))) := (Fr.refl _ _).alloc _
  have HN1 : Hid ((w.alloc (.cells #[.int .i64 (s.num : Int), .int .i64 (s.kind : Int), .int .i64 (s.page : Int), .slice ao1 s.refs.length c1, .slice ao2 s.keep.length c2, .bool s.stay, .slice ao3 D.length c3] 27)).heap[w.heap.size]? = some (.cells #[.int .i64 (s.num : Int), .int .i64 (s.kind : Int), .int .i64 (s.page : Int), .slice ao1 s.refs.length c1, .slice ao2 s.keep.length c2, .bool s.stay, .slice ao3 D.length c3] 27 (0, 0))) := heap_alloc_new w _
  go_enter Tryd.func21, Tryd.ntmps21
  go_wp2_with fail
  generalize (w.alloc (.cells #[.int .i64 (s.num : Int), .int .i64 (s.kind : Int), .int .i64 (s.page : Int), .slice ao1 s.refs.length c1, .slice ao2 s.keep.length c2, .bool s.stay, .slice ao3 D.length c3] 27)) = w1 at *
  generalize hn0 : w.heap.size = n0 at *
  have HN0 : Hid (w.heap.size = n0) := hn0
  clear hn0
  have HLE : Hid (n0 < w1.heap.size) := lt_of_block HN1.out
  have HC : Hid (∀ w', Below w1.heap.size w1 w' → w'.cell? ⟨n0, 0, none⟩ = some (.int .i64 (s.num : Int)) ∧ w'.cell? ⟨n0, 1, none⟩ = some (.int .i64 (s.kind : Int)) ∧ w'.cell? ⟨n0, 2, none⟩ = some (.int .i64 (s.page : Int)) ∧ w'.cell? ⟨n0, 3, none⟩ = some (.slice ao1 s.refs.length c1) ∧ w'.cell? ⟨n0, 4, none⟩ = some (.slice ao2 s.keep.length c2) ∧ w'.cell? ⟨n0, 5, none⟩ = some (.bool s.stay) ∧ w'.cell? ⟨n0, 6, none⟩ = some (.slice ao3 D.length c3)) := fun w' f => by
    have y := (f.block n0 (lt_of_block HN1.out)).trans HN1.out
    simp [World.cell?, y]
  have HFE : Hid (∀ w', Below w1.heap.size w1 w' → Fr (fun _ => False) w w') := fun w' f => HF1.out.trans (Fr.of_below f _) (fun _ _ h => h)
  refine (newW_any' 131085 131085 _ rfl (by omega)).mono ?_
  rintro e w2 ⟨rfl, hat, hw2⟩
  have HO0 : Hid (OwnW w1.heap.size w1 w2 w1.heap.size (.slice none 0 0) 131085 []) := by
    refine ⟨hat, ?_, Nat.le_refl _, fun k e => (by cases e), ?_⟩
    · rw [hw2]; exact (Below.refl _ _).alloc (Nat.le_refl _) _
    · rw [hw2, World.size_alloc]; omega
  clear hat hw2
  generalize w1.heap.size = bw at *
  obtain ⟨q0, q1, q2, q3, q4, q5, q6⟩ := HC.out _ HO0.out.bel
  go_wp2_with fail
  refine (wvar_fits' bw _ 131085 ([]) _ s.num _ rfl HO0.out.at_ (by have := HOK.out.1; omega) (by have := HRM.out.1; rw [HZ0.out] at this; simp only [List.length_append, List.length_nil, length_bitsOf] at this ⊢; omega)).mono ?_
  rintro e w3 ⟨rfl, v3, hat, hst⟩
  have HO1 : Hid (OwnW bw w1 w3 bw v3 131085 ([] ++ varBits s.num)) := HO0.out.step hat hst
  clear hat hst q0 q1 q2 q3 q4 q5 q6 HO0
  obtain ⟨q0, q1, q2, q3, q4, q5, q6⟩ := HC.out _ HO1.out.bel
  go_wp2_with fail
  refine (put_fits' bw _ 131085 ([] ++ varBits s.num) _ 8 s.kind 8 _ rfl rfl HO1.out.at_ (by omega) (by have := HOK.out.2.1; omega) (by have := HRM.out.1; rw [HZ0.out] at this; simp only [List.length_append, List.length_nil, length_bitsOf] at this ⊢; omega)).mono ?_
  rintro e w4 ⟨rfl, v4, hat, hst⟩
  have HO2 : Hid (OwnW bw w1 w4 bw v4 131085 (([] ++ varBits s.num) ++ bitsOf s.kind 8)) := HO1.out.step hat hst
  clear hat hst q0 q1 q2 q3 q4 q5 q6 HO1
  obtain ⟨q0, q1, q2, q3, q4, q5, q6⟩ := HC.out _ HO2.out.bel
  go_wp2_with fail
  refine (wvar_fits' bw _ 131085 (([] ++ varBits s.num) ++ bitsOf s.kind 8) _ s.page _ rfl HO2.out.at_ (by have := HOK.out.2.2.1; omega) (by have := HRM.out.1; rw [HZ0.out] at this; simp only [List.length_append, List.length_nil, length_bitsOf] at this ⊢; omega)).mono ?_
  rintro e w5 ⟨rfl, v5, hat, hst⟩
  have HO3 : Hid (OwnW bw w1 w5 bw v5 131085 ((([] ++ varBits s.num) ++ bitsOf s.kind 8) ++ varBits s.page)) := HO2.out.step hat hst
  clear hat hst q0 q1 q2 q3 q4 q5 q6 HO2
  obtain ⟨q0, q1, q2, q3, q4, q5, q6⟩ := HC.out _ HO3.out.bel
  go_wp2_with fail
  refine (wvar_fits' bw _ 131085 ((([] ++ varBits s.num) ++ bitsOf s.kind 8) ++ varBits s.page) _ s.refs.length _ rfl HO3.out.at_ (by have := HOK.out.2.2.2.1; omega) (by have := HRM.out.1; rw [HZ0.out] at this; simp only [List.length_append, List.length_nil, length_bitsOf] at this ⊢; omega)).mono ?_
  rintro e w6 ⟨rfl, v6, hat, hst⟩
  have HO4 : Hid (OwnW bw w1 w6 bw v6 131085 (hb0 s)) := by show OwnW _ _ _ _ _ _ _; rw [HZ0.out]; exact HO3.out.step hat hst
  clear hat hst q0 q1 q2 q3 q4 q5 q6 HO3
  obtain ⟨q0, q1, q2, q3, q4, q5, q6⟩ := HC.out _ HO4.out.bel
  go_wp2_with fail
  go_loopw [6, 37] (fun _ u wr => ∃ (k : Nat) (v : Value), k ≤ s.refs.length ∧ u = .int .i64 (k : Int) ∧ Hid (OwnW bw w1 wr bw v 131085 (hb1 s k))) (fun _ u _ => (s.refs.length - (intOf u).toNat))
  case atStart => exact ⟨0, _, Nat.zero_le _, rfl, by rw [hb1_zero]; exact HO4.out⟩
  case round =>
    obtain ⟨k, v, hk, rfl, HO⟩ := hrel
    clear q0 q1 q2 q3 q4 q5 q6
    by_cases hlt : k < s.refs.length
    · obtain ⟨b, off, rfl, hc⟩ := HREF.out wr (HFE.out _ HO.out.bel) _ _ rfl (by omega)
      have e1 := hc k hlt
      have hx := HRI.out k hlt
      have HS : Hid (hb1 s (k + 1) = hb1 s k ++ varBits (s.refs[k]?.getD 0)) := hb1_snoc s k hlt
      generalize s.refs[k]?.getD 0 = x at *
      have hd : decide ((k : Int) < (s.refs.length : Int)) = true := decide_eq_true (by omega)
      have hwx : IntKind.u64.wrap (x : Int) = (x : Int) := by rw [IntKind.wrap_u64]; omega
      have hwk : IntKind.i64.wrap ((k : Int) + 1) = (k : Int) + 1 := by have := HOK.out.2.2.2.1; rw [IntKind.wrap_i64]; omega
      have HRO : Hid ((hb1 s k).length + (varBits x).length ≤ 8 * 131085) := by
        have h1 := HRM.out.2.1 k (by omega)
        have h2 := lenVar_le x (by omega)
        show _ ≤ _; omega
      have HX : Hid (x ≤ 32767) := hx
      clear hc hx
      go_wp2_with fail
      refine (wvar_fits' bw v 131085 (hb1 s k) _ x _ rfl HO.out.at_ (by have := HX.out; omega) HRO.out).mono ?_
      rintro e wa ⟨rfl, va, hat, hst⟩
      have HOa : Hid (OwnW bw w1 wa bw va 131085 (hb1 s (k + 1))) := by show OwnW _ _ _ _ _ _ _; rw [HS.out]; exact HO.out.step hat hst
      clear hat hst HO HS HRO
      go_wp2_with fail
      go_roundw
      case rel => exact ⟨k + 1, va, by omega, congrArg (Value.int .i64) (by omega), HOa⟩
      case measure => simp [intOf]; omega
    · obtain rfl : k = s.refs.length := by omega
      have hd : decide ((s.refs.length : Int) < (s.refs.length : Int)) = false := decide_eq_false (by omega)
      obtain ⟨q0, q1, q2, q3, q4, q5, q6⟩ := HC.out _ HO.out.bel
      go_wp2_with fail
      go_loopw [8, 49] (fun _ u wr => ∃ (k : Nat) (v : Value), k ≤ s.keep.length ∧ u = .int .i64 (k : Int) ∧ Hid (OwnW bw w1 wr bw v 131085 (hb2 s k))) (fun _ u _ => (s.keep.length - (intOf u).toNat))
      case atStart => exact ⟨0, _, Nat.zero_le _, rfl, by rw [hb2_zero]; exact HO.out⟩
      case round =>
        obtain ⟨k, v, hk, rfl, HO⟩ := hrel
        clear q0 q1 q2 q3 q4 q5 q6
        by_cases hlt : k < s.keep.length
        · obtain ⟨b, off, rfl, hc⟩ := HKEP.out wr (HFE.out _ HO.out.bel) _ _ rfl (by omega)
          have e1 := hc k hlt
          have HS : Hid (hb2 s (k + 1) = hb2 s k ++ [s.keep[k]?.getD false]) := hb2_snoc s k hlt
          generalize s.keep[k]?.getD false = x at *
          have hd : decide ((k : Int) < (s.keep.length : Int)) = true := decide_eq_true (by omega)
          have hwk : IntKind.i64.wrap ((k : Int) + 1) = (k : Int) + 1 := by have := HOK.out.2.2.2.1; have := HOK.out.2.2.2.2.1; rw [IntKind.wrap_i64]; omega
          have HRO : Hid ((hb2 s k).length + 1 ≤ 8 * 131085) := by
            have h1 := HRM.out.2.2.1 k (by omega)
            show _ ≤ _; omega
          clear hc
          go_wp2_with fail
          refine (putFlag_fits bw v 131085 (hb2 s k) x _ HO.out.at_ HRO.out).mono ?_
          rintro e wa ⟨rfl, va, hat, hst⟩
          have HOa : Hid (OwnW bw w1 wa bw va 131085 (hb2 s (k + 1))) := by show OwnW _ _ _ _ _ _ _; rw [HS.out]; exact HO.out.step hat hst
          clear hat hst HO HS HRO
          go_wp2_with fail
          go_roundw
          case rel => exact ⟨k + 1, va, by omega, congrArg (Value.int .i64) (by omega), HOa⟩
          case measure => simp [intOf]; omega
        · obtain rfl : k = s.keep.length := by omega
          have hd : decide ((s.keep.length : Int) < (s.keep.length : Int)) = false := decide_eq_false (by omega)
          obtain ⟨q0, q1, q2, q3, q4, q5, q6⟩ := HC.out _ HO.out.bel
          go_wp2_with fail
          refine (putFlag_fits bw v 131085 (hb2 s s.keep.length) _ _ HO.out.at_ (by have := HRM.out.2.2.1 s.keep.length (Nat.le_refl _); omega)).mono ?_
          rintro e wa ⟨rfl, va, hat, hst⟩
          have HOa : Hid (OwnW bw w1 wa bw va 131085 (hbA s)) := HO.out.step hat hst
          clear hat hst HO q0 q1 q2 q3 q4 q5 q6
          obtain ⟨q0, q1, q2, q3, q4, q5, q6⟩ := HC.out _ HOa.out.bel
          go_wp2_with fail
          refine (align_any bw va 131085 (hbA s) _ HOa.out.at_).mono ?_
          rintro e wb ⟨rfl, hat, hst⟩
          have HOb : Hid (OwnW bw w1 wb bw va 131085 (padded (hbA s))) := HOa.out.step hat hst
          clear hat hst HOa q0 q1 q2 q3 q4 q5 q6
          obtain ⟨q0, q1, q2, q3, q4, q5, q6⟩ := HC.out _ HOb.out.bel
          go_wp2_with fail
          refine (wvar_fits' bw va 131085 (padded (hbA s)) _ D.length _ rfl HOb.out.at_ (by have := HOK.out.2.2.2.2.2; omega) (by have h1 := HRM.out.2.2.2.2.1; have h2 := lenVar4_le D.length (by have := HOK.out.2.2.2.2.2; omega); omega)).mono ?_
          rintro e wc ⟨rfl, vc, hat, hst⟩
          have HOc : Hid (OwnW bw w1 wc bw vc 131085 (hbE s D.length)) := HOb.out.step hat hst
          clear hat hst HOb q0 q1 q2 q3 q4 q5 q6
          go_wp2_with fail
          refine (bytes_any bw vc 131085 (hbE s D.length) _ HOc.out.at_).mono ?_
          rintro e wd ⟨rv, rfl, hby, hbl⟩
          rw [HPK.out] at hby
          have HBY : Hid (BytesAt wd wc.heap.size rv (hdrB s D.length)) := hby
          have HBL : Hid (Below bw w1 wd) := HOc.out.bel.trans (hbl.mono HOc.out.size)
          have HSZ : Hid (n0 ≤ wc.heap.size) := by have := HLE.out; have := HOc.out.size; show _ ≤ _; omega
          clear hby hbl
          go_wp2_with fail
          go_ret
          refine ⟨rv, rfl, ownsRow_base HBY.out (fun k e => ?_), HFE.out _ HBL.out⟩
          have h1 := (HBY.out.lt k e).1
          have := HSZ.out
          have := HN0.out
          omega
end Go.Proofs.YtamonbkhpbdojaaDoor
