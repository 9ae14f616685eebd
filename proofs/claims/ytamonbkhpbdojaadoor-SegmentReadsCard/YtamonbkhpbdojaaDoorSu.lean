/- Segments' headers: 'wakes'. -/
import Derived.Test.YtamonbkhpbdojaaDoorSt
import Derived.Test.YtamonbkhpbdojaaDoorSk
import Derived.Deep.OwnRows
namespace Go.Proofs.YtamonbkhpbdojaaDoor
set_option maxRecDepth 100000
open Go.RowKit

def wakeS : SgX := ⟨3, 3, 1, [0, 2], [true, false], false, [0, 0, 0, 0, 0]⟩
theorem wake_chk : chk wakeS = true := by decide +kernel
theorem wake_hdr : hdrB (toSeg wakeS) wakeS.data.length = [3, 3, 1, 2, 0, 2, 128, 5] := by decide +kernel
theorem wake_dec : decS [3, 3, 1, 2, 0, 2, 128, 5] 0 = (0, toSeg wakeS, 5, 8) := by
  have h := segS_fwd [] [] (toSeg wakeS) wakeS.data.length (chk_seg wake_chk).2 (fun x hx => by cases hx) (fun x hx => by cases hx)
  rw [List.append_nil, List.nil_append, wake_hdr] at h
  exact h

theorem DB.of_row {w : World} {v : Value} {l : List Nat} {b : Nat} (h : BytesAt w b v l) (hb : Byts l) (hl : l.length ≤ 140737488351232) : ∃ ao cap, v = .slice ao l.length cap ∧ DB w ao cap l := by
  unfold BytesAt at h
  rcases h.2 with ⟨rfl, e⟩ | ⟨g, cap, cur, rfl, h1, h2, h3, h4, h5⟩
  · have hl0 : l = [] := by cases l with | nil => rfl | cons a t => simp at e
    subst hl0
    exact ⟨none, 0, rfl, ⟨fun h => absurd rfl h, hl, hb, fun _ => rfl, Nat.le_refl _, by unfold maxLen; omega, fun ad e => by cases e⟩⟩
  · refine ⟨some ⟨g, 0, none⟩, cap, rfl, ⟨fun hx => ⟨g, 0, rfl, fun j hj => ?_⟩, hl, hb, (fun e => by cases e), h3, h4, (fun ad e _ => ⟨g, 0, by cases e; rfl⟩)⟩⟩
    have := h.cells rfl j (.int .u8 (l[j]?.getD 0)) (by rw [byteCells_get, List.getElem?_eq_getElem hj]; rfl)
    have h2 : (⟨g, 0, none⟩ : Addr).add j = ⟨g, 0 + j, none⟩ := by unfold Addr.add; split <;> simp_all
    rw [h2] at this; exact this

theorem DB.seenV {w : World} {ao : Option Addr} {cap : Nat} {l : List Nat} (h : DB w ao cap l) : SeenAt w (.slice ao l.length cap) l :=
  ⟨ao, cap, rfl, by have := h.lim; omega, h.seen⟩
theorem seen_lit {w : World} {b : Nat} {l : List Nat} {t : TypeId} (h : w.heap[b]? = some (.cells (byteCells l).toArray t (0, 0))) (hl : l.length ≤ 1000) : SeenAt w (.slice (some ⟨b, 0, none⟩) l.length l.length) l := by
  refine ⟨_, _, rfl, by omega, fun _ => ⟨b, 0, rfl, fun j hj => ?_⟩⟩
  simp [World.cell?, h, byteCells_get, hj]
theorem ints_lit {w : World} {b : Nat} {l : List Int} {t : TypeId} (h : w.heap[b]? = some (.cells (iCells l).toArray t (0, 0))) (hl : l.length ≤ 1000) : RowS w (.slice (some ⟨b, 0, none⟩) l.length l.length) (iCells l) := by
  refine ⟨_, l.length, by rw [length_iCells], by rw [length_iCells]; omega, fun _ => ⟨b, 0, rfl, fun j hj => ?_⟩⟩
  simp [World.cell?, h]
theorem made_bytes (n : Nat) : (madeCells #[Value.int .u8 0] n).toList = byteCells (List.replicate n 0) := by
  rw [toList_madeCells_one]; simp [byteCells]
theorem made_row {w : World} {b n : Nat} {v : Value} (h : w.ownsRow b 5 1 v n (madeCells #[Value.int .u8 0] n).toList) : w.ownsRow b 5 1 v (byteCells (List.replicate n 0)).length (byteCells (List.replicate n 0)) := by
  rw [made_bytes] at h
  rw [length_byteCells, List.length_replicate]; exact h

set_option maxHeartbeats 4000000 in
theorem wakes_any (w : World) (hr : RulesAt w) : Calls Tryd.prog 14 #[] w fun e w' => e = .returned (.bool true) ∧ Fr (fun _ => False) w w' := by
  obtain ⟨i0, hi, hz0, hz1, hz2⟩ := info_parts Tryd.info5
  have HRU : Hid (RulesAt w) := hr
  clear hr
  have HF1 : Hid (Fr (fun _ => False) w ((w.alloc (.cells #[.int .i64 0, .int .i64 2] 3)).alloc (.cells #[.bool true, .bool false] 4))) := ((Fr.refl _ w).alloc _).alloc _
  have HB1 : Hid (((w.alloc (.cells #[.int .i64 0, .int .i64 2] 3)).alloc (.cells #[.bool true, .bool false] 4)).heap[w.heap.size]? = some (.cells #[.int .i64 0, .int .i64 2] 3 (0, 0)) ∧ ((w.alloc (.cells #[.int .i64 0, .int .i64 2] 3)).alloc (.cells #[.bool true, .bool false] 4)).heap[w.heap.size + 1]? = some (.cells #[.bool true, .bool false] 4 (0, 0)) ∧ ((w.alloc (.cells #[.int .i64 0, .int .i64 2] 3)).alloc (.cells #[.bool true, .bool false] 4)).heap.size = w.heap.size + 2) := by
    obtain ⟨z1, z2, z3, _⟩ := allocs2 w (.cells #[.int .i64 0, .int .i64 2] 3) (.cells #[.bool true, .bool false] 4)
    exact ⟨z2, z3, z1⟩
  go_enter Tryd.func14, Tryd.ntmps14
  go_wp2_with (first | (at_make; refine wpList_make_full _ rfl _ _ 25 rfl 0 5 i0 (.int .u8 0) 1 Tryd.underlying25 hi hz0 hz1 .i64 .i64 _ _ 5 rfl rfl ?_ ?_ ?_ ?_ ?_ ?_))
  all_goals try (first | omega | (rw [hz2]; omega) | (unfold maxLen; omega))
  intro w5 hown hgrow
  have HF5 : Hid (Fr (fun _ => False) w w5) := HF1.out.trans ((Fr.refl (fun _ => False) _).grown hgrow (fun _ e _ => by cases e)) (fun _ _ h => h)
  have hk := (Fr.refl (fun _ => False) ((w.alloc (.cells #[.int .i64 0, .int .i64 2] 3)).alloc (.cells #[.bool true, .bool false] 4))).grown hgrow (fun _ e _ => by cases e)
  obtain ⟨y1, y2, y3⟩ := HB1.out
  have y4 := (hk.block w.heap.size (by omega) (fun h => h)).trans y1
  have y5 := (hk.block (w.heap.size + 1) (by omega) (fun h => h)).trans y2
  have HSG : Hid (∀ w', Fr (fun _ => False) w5 w' → SgAt w' wakeS (.slice (some ⟨w.heap.size, 0, none⟩) 2 2) (.slice (some ⟨w.heap.size + 1, 0, none⟩) 2 2) (.slice (some ⟨w.heap.size + 1 + 1, 0, none⟩) 5 5)) := fun w' f => by
    refine SgAt.kept (w := w5) ⟨⟨_, _, rfl, by simp [wakeS, iCells], fun _ => ⟨_, 0, rfl, fun j hj => ?_⟩⟩, ⟨_, _, rfl, by simp [wakeS, boolCells], fun _ => ⟨_, 0, rfl, fun j hj => ?_⟩⟩, RowS.of_own (made_row hown) (by simp [wakeS, byteCells])⟩ f
    · simp [World.cell?, y4, wakeS, iCells]
    · simp [World.cell?, y5, wakeS, boolCells]
  have HCH : Hid (∀ w', Fr (fun _ => False) w5 w' → Calls Tryd.prog 10 #[.agg #[.int .i64 3, .int .i64 3, .int .i64 1, .slice (some ⟨w.heap.size, 0, none⟩) 2 2, .slice (some ⟨w.heap.size + 1, 0, none⟩) 2 2, .bool false, .slice (some ⟨w.heap.size + 1 + 1, 0, none⟩) 5 5]] w' fun e w'' => e = .returned (.bool true) ∧ Fr (fun _ => False) w' w'') := fun w' f => by
    have := check_any wakeS _ _ _ w' (HSG.out w' f) (HRU.out.kept (HF5.out.trans f (fun _ _ h => h)) (fun h => h))
    rw [wake_chk] at this
    exact this
  have HEN : Hid (∀ w', Fr (fun _ => False) w5 w' → Calls Tryd.prog 8 #[.agg #[.int .i64 3, .int .i64 3, .int .i64 1, .slice (some ⟨w.heap.size, 0, none⟩) 2 2, .slice (some ⟨w.heap.size + 1, 0, none⟩) 2 2, .bool false, .slice (some ⟨w.heap.size + 1 + 1, 0, none⟩) 5 5]] w' fun e w'' => Fr (fun _ => False) w' w'' ∧ ∃ ao cap, e = .returned (.tuple #[.slice ao 8 cap, .int .i64 0]) ∧ DB w'' ao cap [3, 3, 1, 2, 0, 2, 128, 5]) := fun w' f => by
    refine (encode_any wakeS _ _ _ w' (HSG.out w' f) (HRU.out.kept (HF5.out.trans f (fun _ _ h => h)) (fun h => h))).mono ?_
    rintro e w'' ⟨hf, ⟨_, rv, rfl, hby⟩ | ⟨hc, _⟩⟩
    · rw [wake_hdr] at hby
      obtain ⟨ao, cap, rfl, hdb⟩ := DB.of_row hby (fun x hx => by simp at hx; omega) (by decide)
      exact ⟨hf, ao, cap, rfl, hdb⟩
    · rw [wake_chk] at hc; cases hc
  have HDE : Hid (∀ w' ao cap, Fr (fun _ => False) w5 w' → DB w' ao cap [3, 3, 1, 2, 0, 2, 128, 5] → Calls Tryd.prog 16 #[.slice ao 8 cap, .int .i64 0] w' fun e w'' => Fr (fun _ => False) w' w'' ∧ ∃ a1 c1 a2 c2, e = .returned (.tuple #[.agg #[.int .i64 3, .int .i64 3, .int .i64 1, .slice a1 2 c1, .slice a2 2 c2, .bool false, .slice none 0 0], .int .i64 5, .int .i64 8, .int .i64 0]) ∧ RowS w'' (.slice a1 2 c1) (iCells [0, 2])) := fun w' ao cap f hd => by
    refine (decode_any ao cap [3, 3, 1, 2, 0, 2, 128, 5] 0 w' hd (HRU.out.kept (HF5.out.trans f (fun _ _ h => h)) (fun h => h))).mono ?_
    rw [wake_dec]
    rintro e w'' ⟨hf, vr, vk, rfl, hvr, hvk⟩
    obtain ⟨a1, c1, rfl⟩ := own_slice hvr
    obtain ⟨a2, c2, rfl⟩ := own_slice hvk
    exact ⟨hf, a1, c1, a2, c2, rfl, RowS.of_own hvr (by decide)⟩
  clear hi hz0 hz1 hz2 hown hgrow hk y1 y2 y3 y4 y5 HB1 HF1
  go_wp2_with fail
  have HF6 : Hid (Fr (fun _ => False) w5 (w5.alloc (.cells #[.int .i64 3, .int .i64 3, .int .i64 1, .slice (some ⟨w.heap.size, 0, none⟩) 2 2, .slice (some ⟨w.heap.size + 1, 0, none⟩) 2 2, .bool false, .slice (some ⟨w.heap.size + 1 + 1, 0, none⟩) 5 5] 27))) := (Fr.refl _ _).alloc _
  have HB6 : Hid ((w5.alloc (.cells #[.int .i64 3, .int .i64 3, .int .i64 1, .slice (some ⟨w.heap.size, 0, none⟩) 2 2, .slice (some ⟨w.heap.size + 1, 0, none⟩) 2 2, .bool false, .slice (some ⟨w.heap.size + 1 + 1, 0, none⟩) 5 5] 27)).heap[w5.heap.size]? = some (.cells #[.int .i64 3, .int .i64 3, .int .i64 1, .slice (some ⟨w.heap.size, 0, none⟩) 2 2, .slice (some ⟨w.heap.size + 1, 0, none⟩) 2 2, .bool false, .slice (some ⟨w.heap.size + 1 + 1, 0, none⟩) 5 5] 27 (0, 0))) := heap_alloc_new w5 _
  generalize (w5.alloc (.cells #[.int .i64 3, .int .i64 3, .int .i64 1, .slice (some ⟨w.heap.size, 0, none⟩) 2 2, .slice (some ⟨w.heap.size + 1, 0, none⟩) 2 2, .bool false, .slice (some ⟨w.heap.size + 1 + 1, 0, none⟩) 5 5] 27)) = w6 at *
  generalize w5.heap.size = sb at *
  have HC6 : Hid (∀ w', Fr (fun _ => False) w6 w' → w'.cell? ⟨sb, 0, none⟩ = some (.int .i64 3) ∧ w'.cell? ⟨sb, 1, none⟩ = some (.int .i64 3) ∧ w'.cell? ⟨sb, 2, none⟩ = some (.int .i64 1) ∧ w'.cell? ⟨sb, 3, none⟩ = some (.slice (some ⟨w.heap.size, 0, none⟩) 2 2) ∧ w'.cell? ⟨sb, 4, none⟩ = some (.slice (some ⟨w.heap.size + 1, 0, none⟩) 2 2) ∧ w'.cell? ⟨sb, 5, none⟩ = some (.bool false) ∧ w'.cell? ⟨sb, 6, none⟩ = some (.slice (some ⟨w.heap.size + 1 + 1, 0, none⟩) 5 5)) := fun w' f => by
    have y := (f.block sb (lt_of_block HB6.out) (fun h => h)).trans HB6.out
    simp [World.cell?, y]
  refine (HEN.out w6 HF6.out).mono ?_
  rintro e w7 ⟨hf7, ao, cap, rfl, hdb⟩
  have HF7 : Hid (Fr (fun _ => False) w6 w7) := hf7
  have HDB : Hid (DB w7 ao cap [3, 3, 1, 2, 0, 2, 128, 5]) := hdb
  clear hf7 hdb
  go_wp2_with fail
  refine (HDE.out w7 ao cap (HF6.out.trans HF7.out (fun _ _ h => h)) HDB.out).mono ?_
  rintro e w8 ⟨hf8, a1, d1, a2, d2, rfl, hri⟩
  have HF8 : Hid (Fr (fun _ => False) w6 w8) := HF7.out.trans hf8 (fun _ _ h => h)
  have HDB8 : Hid (DB w8 ao cap [3, 3, 1, 2, 0, 2, 128, 5]) := HDB.out.kept hf8
  have HRI : Hid (RowS w8 (.slice a1 2 d1) (iCells [0, 2])) := hri
  clear hf8 hri HDB
  go_wp2_with fail
  have HBA : Hid ((w8.alloc (.cells #[.int .i64 3, .int .i64 3, .int .i64 1, .slice a1 2 d1, .slice a2 2 d2, .bool false, .slice none 0 0] 27)).heap[w8.heap.size]? = some (.cells #[.int .i64 3, .int .i64 3, .int .i64 1, .slice a1 2 d1, .slice a2 2 d2, .bool false, .slice none 0 0] 27 (0, 0))) := heap_alloc_new w8 _
  have HFA : Hid (Fr (fun _ => False) w8 (w8.alloc (.cells #[.int .i64 3, .int .i64 3, .int .i64 1, .slice a1 2 d1, .slice a2 2 d2, .bool false, .slice none 0 0] 27))) := (Fr.refl _ _).alloc _
  have HSA : Hid ((w8.alloc (.cells #[.int .i64 3, .int .i64 3, .int .i64 1, .slice a1 2 d1, .slice a2 2 d2, .bool false, .slice none 0 0] 27)).heap.size = w8.heap.size + 1) := World.size_alloc _ _
  rw [← HSA.out]
  generalize w8.heap.size = tb at *
  generalize (w8.alloc (.cells #[.int .i64 3, .int .i64 3, .int .i64 1, .slice a1 2 d1, .slice a2 2 d2, .bool false, .slice none 0 0] 27)) = w9 at *
  have HFB : Hid (Fr (fun _ => False) w9 (w9.alloc (.cells #[.int .u8 3, .int .u8 3, .int .u8 1, .int .u8 2, .int .u8 0, .int .u8 2, .int .u8 128, .int .u8 5] 5))) := (Fr.refl _ _).alloc _
  refine (eq_same _ _ [3, 3, 1, 2, 0, 2, 128, 5] [3, 3, 1, 2, 0, 2, 128, 5] _ ((HDB8.out.kept HFA.out).kept HFB.out).seenV (seen_lit (heap_alloc_new w9 _) (by decide)) rfl true (by show _ = _; simp)).mono ?_
  rintro e wA ⟨rfl, q, rfl⟩
  have HFC : Hid (Fr (fun _ => False) w9 ((w9.alloc (.cells #[.int .u8 3, .int .u8 3, .int .u8 1, .int .u8 2, .int .u8 0, .int .u8 2, .int .u8 128, .int .u8 5] 5)).drewN q)) := HFB.out.drewN q
  generalize ((w9.alloc (.cells #[.int .u8 3, .int .u8 3, .int .u8 1, .int .u8 2, .int .u8 0, .int .u8 2, .int .u8 128, .int .u8 5] 5)).drewN q) = wB at *
  have y := (HFC.out.block tb (lt_of_block HBA.out) (fun h => h)).trans HBA.out
  have g0 : wB.cell? ⟨tb, 0, none⟩ = some (.int .i64 3) := by simp [World.cell?, y]
  have g3 : wB.cell? ⟨tb, 3, none⟩ = some (.slice a1 2 d1) := by simp [World.cell?, y]
  clear y HFB
  go_wp2_with fail
  have hlit : RowS (wB.alloc (.cells #[.int .i64 0, .int .i64 2] 3)) (.slice (some ⟨wB.heap.size, 0, none⟩) 2 2) (iCells [0, 2]) := ints_lit (l := [0, 2]) (t := 3) (heap_alloc_new wB _) (by decide)
  refine (eqInts_same _ _ [0, 2] (wB.alloc (.cells #[.int .i64 0, .int .i64 2] 3)) ((HRI.out.kept (HFA.out.trans HFC.out (fun _ _ h => h))).kept ((Fr.refl _ _).alloc _)) hlit).mono ?_
  rintro e wD ⟨rfl, q2, rfl⟩
  have HFD : Hid (Fr (fun _ => False) w6 ((wB.alloc (.cells #[.int .i64 0, .int .i64 2] 3)).drewN q2)) := (HF8.out.trans (HFA.out.trans HFC.out (fun _ _ h => h)) (fun _ _ h => h)).trans (((Fr.refl (fun _ => False) wB).alloc _).drewN q2) (fun _ _ h => h)
  generalize ((wB.alloc (.cells #[.int .i64 0, .int .i64 2] 3)).drewN q2) = wE at *
  obtain ⟨k0, k1, k2, k3, k4, k5, k6⟩ := HC6.out _ HFD.out
  go_wp2_with fail
  refine (HCH.out _ (HF6.out.trans HFD.out (fun _ _ h => h))).mono ?_
  rintro e wG ⟨rfl, hfg⟩
  have HFG : Hid (Fr (fun _ => False) w wG) := HF5.out.trans (HF6.out.trans (HFD.out.trans hfg (fun _ _ h => h)) (fun _ _ h => h)) (fun _ _ h => h)
  go_wp2_with fail
  go_ret
  exact ⟨rfl, HFG.out⟩
end Go.Proofs.YtamonbkhpbdojaaDoor
