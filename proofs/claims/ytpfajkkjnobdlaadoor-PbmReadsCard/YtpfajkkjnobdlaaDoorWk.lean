/- 'wakes'. -/
import Derived.Lib.SlBytesConst
import Derived.Deep.Cut
import Derived.Laws.IdiomStrings
import Derived.Test.YtpfajkkjnobdlaaDoorWc
import Derived.Test.YtpfajkkjnobdlaaDoorRg
namespace Go.Proofs.YtpfajkkjnobdlaaDoor
set_option maxRecDepth 100000
open Go.RowKit

theorem decN_one : decN 1 = [49] := decN_small (by omega)
theorem decN_two : decN 2 = [50] := decN_small (by omega)
theorem wake_text : fileS true 2 1 (pixOf 2 [9223372036854775808]) = [80, 49, 10, 50, 32, 49, 10, 49, 48, 10] := by
  have h : txtT 2 1 (pixOf 2 [9223372036854775808]) = [49, 48, 10] := by decide +kernel
  simp only [fileS, if_true, headS, decN_one, decN_two, h]
  rfl
theorem wake_bytes : fileS false 2 1 (pixOf 2 [9223372036854775808]) = [80, 52, 10, 50, 32, 49, 10, 128] := by
  have h : txtB 2 1 (pixOf 2 [9223372036854775808]) = [128] := by decide +kernel
  simp only [fileS, Bool.false_eq_true, if_false, headS, decN_one, decN_two, h]
  rfl
def wakeL : List Nat := [80, 49, 32, 50, 35, 120, 10, 49, 32, 49, 32, 48, 32, 35, 32, 101, 110, 100]
theorem wake_read : readS wakeL = .ok (2, 1, plcT 2 [true, false]) := by rfl
theorem wake_words : render 2 1 (plcT 2 [true, false]) = [9223372036854775808] := by decide +kernel
theorem wake_valid : validB ((2 : Nat) : Int) ((1 : Nat) : Int) [9223372036854775808] = true := by decide +kernel

theorem row_string {w : World} {g cap : Nat} {l : List Nat} (h : RowM w g cap l) (hb : ∀ x ∈ l, x < 256) : (convert 27 9 (.slice (some ⟨g, 0, none⟩) l.length cap)).run Tryd.prog w = .ok (.string ⟨(l.map UInt8.ofNat).toArray⟩) w := by
  have e := run_convert_bytes_back (P := Tryd.prog) w 27 9 5 ⟨g, 0, none⟩ cap (l.map UInt8.ofNat) Tryd.underlying27 Tryd.underlying5 Tryd.underlying9 (fun j hj => by
    have hj' : j < l.length := by simpa using hj
    rw [show (⟨g, 0, none⟩ : Addr).add j = ⟨g, j, none⟩ from by unfold Addr.add; split <;> simp_all, h.cell j hj', List.getElem?_eq_getElem hj', List.getElem_map]
    have := hb l[j] (List.getElem_mem _)
    simp [UInt8.toNat_ofNat']
    omega)
  simpa using e

set_option maxHeartbeats 3000000 in
theorem wakes_any (w : World) (ht : TabAt w) : Calls Tryd.prog 12 #[] w fun e w' => e = .returned (.bool true) ∧ Fr (fun _ => False) w w' := by
  have kc := fun (w : World) (C : Array Value) (n c : Nat) => Lib.run_convert_bytes_const (P := Tryd.prog) w 27 5 C n c Tryd.underlying27 Tryd.underlying5
  have HT : Hid (TabAt w) := ht
  clear ht
  go_enter Tryd.func12, Tryd.ntmps12
  go_wp2_with fail
  obtain ⟨hz2, hb0, hb1, hk2⟩ := allocs2 w (.cells #[.int .u64 9223372036854775808] 50) (.cells #[.int .i64 2, .int .i64 1, .slice (some ⟨w.heap.size, 0, none⟩) 1 1] 25)
  have HF2 : Hid (Fr (fun _ => False) w ((w.alloc (.cells #[.int .u64 9223372036854775808] 50)).alloc (.cells #[.int .i64 2, .int .i64 1, .slice (some ⟨w.heap.size, 0, none⟩) 1 1] 25))) := hk2
  generalize ((w.alloc (.cells #[.int .u64 9223372036854775808] 50)).alloc (.cells #[.int .i64 2, .int .i64 1, .slice (some ⟨w.heap.size, 0, none⟩) 1 1] 25)) = w2 at *
  have HBW : Hid (∀ w', Fr (fun _ => False) w2 w' → w'.cell? ⟨w.heap.size + 1, 0, none⟩ = some (.int .i64 2) ∧ w'.cell? ⟨w.heap.size + 1, 1, none⟩ = some (.int .i64 1) ∧ w'.cell? ⟨w.heap.size + 1, 2, none⟩ = some (.slice (some ⟨w.heap.size, 0, none⟩) 1 1) ∧ Seen w' (.slice (some ⟨w.heap.size, 0, none⟩) 1 1) [9223372036854775808]) := fun w' f => by
    have h1 : w'.heap[w.heap.size + 1]? = _ := (f.block _ (lt_of_block hb1) (fun h => h)).trans hb1
    have h0 : w'.heap[w.heap.size]? = _ := (f.block _ (lt_of_block hb0) (fun h => h)).trans hb0
    obtain ⟨c0, c1, c2, _⟩ := cell_of_three h1
    refine ⟨c0, c1, c2, _, _, rfl, by decide, fun _ => ⟨w.heap.size, 0, rfl, fun j hj => ?_⟩⟩
    have hj0 : j = 0 := by simpa using hj
    subst hj0
    simp [World.cell?, h0]
  have HLT : Hid (∀ j : Nat, ([9223372036854775808] : List Nat)[j]?.getD 0 < 18446744073709551616) := fun j => by
    rcases j with _ | j <;> simp
  have HWR : Hid (∀ (txt : Bool) (k : Int) w', k = (if txt then 0 else 1) → Fr (fun _ => False) w2 w' → Calls Tryd.prog 8 #[.agg #[.int .i64 2, .int .i64 1, .slice (some ⟨w.heap.size, 0, none⟩) 1 1], .int .i64 k] w' fun e w'' => Fr (fun _ => False) w' w'' ∧ ∃ r, e = .returned (.tuple #[r, .int .i64 0]) ∧ FileR w' (fileS txt 2 1 (pixOf 2 [9223372036854775808])) r w'') := fun txt k w' hk f => by
    have h := write_ok txt 2 1 (.slice (some ⟨w.heap.size, 0, none⟩) 1 1) [9223372036854775808] w' (HBW.out w' f).2.2.2 HLT.out wake_valid (HT.out.kept (HF2.out.trans f (fun _ _ h => h)))
    rw [hk]
    exact h
  clear hb0 hb1 hk2 hz2
  obtain ⟨B, hB⟩ : ∃ B, B = w.heap.size := ⟨_, rfl⟩
  rw [← hB] at HBW HWR ⊢
  have HB : Hid (B = w.heap.size) := hB
  clear hB
  refine Calls.mono (HWR.out true 0 w2 rfl (Fr.refl _ _)) ?_
  rw [wake_text]
  rintro e w3 ⟨hf3, r3, rfl, g3, cp3, rfl, hr3, hg3⟩
  have HF3 : Hid (Fr (fun _ => False) w2 w3) := hf3
  have HR3 : Hid (RowM w3 g3 cp3 [80, 49, 10, 50, 32, 49, 10, 49, 48, 10]) := hr3
  clear hf3 hr3 hg3
  obtain ⟨c0, c1, c2, _⟩ := HBW.out w3 HF3.out
  go_wp2_with fail
  refine Calls.mono (HWR.out false 1 w3 rfl HF3.out) ?_
  rw [wake_bytes]
  rintro e w4 ⟨hf4, r4, rfl, g4, cp4, rfl, hr4, hg4⟩
  have HF4 : Hid (Fr (fun _ => False) w2 w4) := HF3.out.trans hf4 (fun _ _ h => h)
  have HR4 : Hid (RowM w4 g4 cp4 [80, 52, 10, 50, 32, 49, 10, 128]) := hr4
  have HR34 : Hid (RowM w4 g3 cp3 [80, 49, 10, 50, 32, 49, 10, 49, 48, 10]) := HR3.out.kept hf4 (fun h => h)
  clear hf4 hr4 hg4 c0 c1 c2 HR3
  go_wp2_with fail
  have HF5 : Hid (Fr (fun _ => False) w4 (w4.alloc (.cells #[.int .u8 80, .int .u8 49, .int .u8 32, .int .u8 50, .int .u8 35, .int .u8 120, .int .u8 10, .int .u8 49, .int .u8 32, .int .u8 49, .int .u8 32, .int .u8 48, .int .u8 32, .int .u8 35, .int .u8 32, .int .u8 101, .int .u8 110, .int .u8 100] 5 (18, 19)))) := (Fr.refl _ w4).alloc _
  have HB5 := heap_alloc_new w4 (.cells #[.int .u8 80, .int .u8 49, .int .u8 32, .int .u8 50, .int .u8 35, .int .u8 120, .int .u8 10, .int .u8 49, .int .u8 32, .int .u8 49, .int .u8 32, .int .u8 48, .int .u8 32, .int .u8 35, .int .u8 32, .int .u8 101, .int .u8 110, .int .u8 100] 5 (18, 19))
  generalize (w4.alloc (.cells #[.int .u8 80, .int .u8 49, .int .u8 32, .int .u8 50, .int .u8 35, .int .u8 120, .int .u8 10, .int .u8 49, .int .u8 32, .int .u8 49, .int .u8 32, .int .u8 48, .int .u8 32, .int .u8 35, .int .u8 32, .int .u8 101, .int .u8 110, .int .u8 100] 5 (18, 19))) = w5 at *
  have HRD : Hid (Calls Tryd.prog 14 #[.slice (some ⟨w4.heap.size, 0, none⟩) 18 18] w5 (ReadQ w5 (.ok (2, 1, plcT 2 [true, false])))) := by
    have h := read_any (some ⟨w4.heap.size, 0, none⟩) 18 wakeL w5 (fun _ => ⟨w4.heap.size, 0, rfl, fun j hj => ?_⟩) (by decide) (by decide) (by decide)
    · rw [wake_read] at h
      exact h
    · rw [Nat.zero_add, World.cell?, HB5]
      change ((byteCells wakeL).toArray)[j]? = _
      rw [List.getElem?_toArray, byteCells_get, List.getElem?_eq_getElem hj]
      rfl
  clear HB5
  refine Calls.mono HRD.out ?_
  rintro e w6 ⟨hf6, v6, rfl, g6, cp6, hv6, ho6, hg6, _⟩
  have HF6 : Hid (Fr (fun _ => False) w2 w6) := (HF4.out.trans HF5.out (fun _ _ h => h)).trans hf6 (fun _ _ h => h)
  have HF46 : Hid (Fr (fun _ => False) w4 w6) := HF5.out.trans hf6 (fun _ _ h => h)
  have HS6 : Hid (Seen w6 (.slice (some ⟨g6, 0, none⟩) 1 cp6) [9223372036854775808]) := by
    simp only at ho6
    rw [wake_words] at ho6
    exact Seen.of_row (l := [9223372036854775808]) ho6 (by decide)
  have HV6 : Hid (v6 = .agg #[.int .i64 2, .int .i64 1, .slice (some ⟨g6, 0, none⟩) 1 cp6]) := hv6
  clear hf6 hv6 ho6 hg6 HRD HF5
  have hv6 := HV6.out
  subst hv6
  go_upto_region 5 with (fail)
  have HF7 : Hid (Fr (fun _ => False) w6 (w6.alloc (.cells #[.int .i64 2, .int .i64 1, .slice (some ⟨g6, 0, none⟩) 1 cp6] 25))) := (Fr.refl _ w6).alloc _
  have HB7 := heap_alloc_new w6 (.cells #[.int .i64 2, .int .i64 1, .slice (some ⟨g6, 0, none⟩) 1 cp6] 25)
  generalize (w6.alloc (.cells #[.int .i64 2, .int .i64 1, .slice (some ⟨g6, 0, none⟩) 1 cp6] 25)) = w7 at *
  obtain ⟨d0, d1, d2, _⟩ := cell_of_three HB7
  obtain ⟨c0, c1, c2, hs0⟩ := HBW.out w7 (HF6.out.trans HF7.out (fun _ _ h => h))
  have HS7 : Hid (Seen w7 (.slice (some ⟨g6, 0, none⟩) 1 cp6) [9223372036854775808]) := HS6.out.kept HF7.out
  have HS0 : Hid (Seen w7 (.slice (some ⟨B, 0, none⟩) 1 1) [9223372036854775808]) := hs0
  have q1 : (convert 27 9 (.slice (some ⟨g3, 0, none⟩) 10 cp3)).run Tryd.prog w7 = .ok (.string { data := #[80, 49, 10, 50, 32, 49, 10, 49, 48, 10] }) w7 := row_string (l := [80, 49, 10, 50, 32, 49, 10, 49, 48, 10]) (HR34.out.kept (HF46.out.trans HF7.out (fun _ _ h => h)) (fun h => h)) (by decide)
  have q2 : (convert 27 9 (.slice (some ⟨g4, 0, none⟩) 8 cp4)).run Tryd.prog w7 = .ok (.string { data := #[80, 52, 10, 50, 32, 49, 10, 128] }) w7 := row_string (l := [80, 52, 10, 50, 32, 49, 10, 128]) (HR4.out.kept (HF46.out.trans HF7.out (fun _ _ h => h)) (fun h => h)) (by decide)
  clear hs0 HB7
  go_wp2_with fail
  refine Calls.mono (eqBitmap_int 2 1 (.slice (some ⟨g6, 0, none⟩) 1 cp6) (.slice (some ⟨B, 0, none⟩) 1 1) [9223372036854775808] w7 HS7.out HS0.out) ?_
  rintro e w8 ⟨rfl, hf8⟩
  have HF8 : Hid (Fr (fun _ => False) w w8) := ((HF2.out.trans HF6.out (fun _ _ h => h)).trans HF7.out (fun _ _ h => h)).trans hf8 (fun _ _ h => h)
  clear hf8 c0 c1 c2 d0 d1 d2 q1 q2
  go_wp2_with fail
  go_ret
  exact ⟨rfl, HF8.out⟩
end Go.Proofs.YtpfajkkjnobdlaaDoor
