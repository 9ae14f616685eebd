/- Law 'Back'. -/
import Derived.Test.YtpfajkkjnobdlaaDoorWk
import Derived.Test.YtpfajkkjnobdlaaDoorMay
import Derived.Test.YtpfajkkjnobdlaaDoorSm
namespace Go.Proofs.YtpfajkkjnobdlaaDoor
set_option maxRecDepth 100000
open Go.RowKit

set_option maxHeartbeats 1000000 in
theorem copy_row (b off cap : Nat) (l : List Nat) (w : World) (hl : 0 < l.length) (hlim : l.length ≤ 16777216) (hc : ∀ j, j < l.length → w.cell? ⟨b, off + j, none⟩ = some (.int .u8 (l[j]?.getD 0 : Nat))) :
    Calls Tryd.prog 20 #[.slice (some ⟨b, off, none⟩) l.length cap] w fun e w' => Fr (fun _ => False) w w' ∧ ∃ g' cap', e = .returned (.slice (some ⟨g', 0, none⟩) l.length cap') ∧ RowM w' g' cap' l ∧ w.heap.size ≤ g' := by
  obtain ⟨i0, hi, hz0, hz1, hz2⟩ := info_parts Tryd.info5
  have HC : Hid (∀ j, j < l.length → w.cell? ⟨b, off + j, none⟩ = some (.int .u8 (l[j]?.getD 0 : Nat))) := hc
  clear hc
  obtain ⟨n, hn⟩ : ∃ n, n = l.length := ⟨_, rfl⟩
  have HN : Hid (n = l.length) := hn
  rw [← hn] at hl hlim ⊢
  clear hn
  go_enter Tryd.func20, Tryd.ntmps20
  go_wp2_with (first | (at_builtin; refine wpList_append_own _ rfl _ _ 27 rfl w.heap.size 5 i0 (.int .u8 0) 1 1 Tryd.underlying27 hi hz0 hz1 hz2 rfl (by decide) (.slice none 0 0) 0 [] rfl (World.ownsRow_nil _ _ _ _) ⟨b, off, none⟩ n cap (byteCells l) rfl ?_ ?_ (byteCells_one l) ?_ ?_ (Nat.le_refl _) ?_))
  · rw [length_byteCells, ← HN.out]; omega
  · intro j u hu
    have hj : j < l.length := by
      rcases Nat.lt_or_ge j l.length with h | h
      · exact h
      · rw [List.getElem?_eq_none (by rw [length_byteCells]; exact h)] at hu; cases hu
    rw [show (⟨b, off, none⟩ : Addr).add j = ⟨b, off + j, none⟩ from by unfold Addr.add; split <;> simp_all, HC.out j hj, ← hu, byteCells_get, List.getElem?_eq_getElem hj]
    rfl
  · unfold maxLen; omega
  · omega
  · intro v' w2 ho hg hnil
    have HO : Hid (w2.ownsRow w.heap.size 5 1 v' n (byteCells l)) := ho
    have HF : Hid (Fr (fun _ => False) w w2) := (Fr.refl _ w).grown hg (fun k hk _ => by cases hk)
    clear ho hg hnil
    go_wp2_with fail
    go_ret
    have h1 := HO.out
    obtain ⟨g', cap', rfl, hb, _, _⟩ := row_form h1 hl
    refine ⟨HF.out, g', cap', rfl, RowM.of_own ?_, hb⟩
    rw [← HN.out]
    exact ownsRow_base h1 (fun _ _ => Nat.zero_le _)

theorem fileS_lim (txt : Bool) (W H : Nat) (P : Nat → Nat → Bool) (hs : sizeS W H = true) : (fileS txt W H P).length ≤ 8388608 := by
  obtain ⟨f1, f2⟩ := size_le hs
  obtain ⟨z1, z2, z3⟩ := sizeS_iff.1 hs
  have h1 := head_len 49 W H f1 f2
  have h2 := head_len 52 W H f1 f2
  have h3 := txtT_len W H P
  have h4 := txtB_length W H P
  have h5 : wideS W * H ≤ 1048576 := Nat.le_trans (Nat.mul_le_mul_right H (by unfold wideS; omega : wideS W ≤ W)) z3
  cases txt <;> simp only [fileS, if_true, Bool.false_eq_true, if_false, List.length_append] <;> omega
theorem fileS_byt (txt : Bool) (W H : Nat) (P : Nat → Nat → Bool) : ∀ x ∈ fileS txt W H P, x < 256 := by
  have hd : ∀ n, ∀ x ∈ decN n, x < 256 := by
    intro n x hx
    unfold decN at hx
    obtain ⟨u, _, rfl⟩ := List.mem_map.1 hx
    exact u.toNat_lt
  have hh : ∀ c, c < 256 → ∀ x ∈ headS c W H, x < 256 := by
    intro c hc x hx
    simp only [headS, List.mem_append, List.mem_cons, List.not_mem_nil, or_false] at hx
    rcases hx with ((((rfl | rfl | rfl) | h) | rfl) | h) | rfl
    · omega
    · exact hc
    · omega
    · exact hd _ _ h
    · omega
    · exact hd _ _ h
    · omega
  cases txt
  · intro x hx
    simp only [fileS, Bool.false_eq_true, if_false, List.mem_append] at hx
    rcases hx with h | h
    · exact hh 52 (by omega) x h
    · simp only [txtB, rowB, List.mem_flatMap, List.mem_map] at h
      obtain ⟨_, _, _, _, rfl⟩ := h
      exact byteS_lt _ _ _ _
  · intro x hx
    simp only [fileS, if_true, List.mem_append] at hx
    rcases hx with h | h
    · exact hh 49 (by omega) x h
    · simp only [txtT, rowT, cellT, List.mem_flatMap] at h
      obtain ⟨y, _, x', _, h⟩ := h
      rcases List.mem_cons.1 h with rfl | h
      · unfold dgt; cases P x' y <;> simp
      · split at h
        · simp at h; omega
        · cases h

theorem read_row (g cap : Nat) (L : List Nat) (w : World) (h : RowM w g cap L) (hl : L.length ≤ 140737488355328) (hb : ∀ x ∈ L, x < 256) : Calls Tryd.prog 14 #[.slice (some ⟨g, 0, none⟩) L.length cap] w (ReadQ w (readS L)) :=
  read_any (some ⟨g, 0, none⟩) cap L w (fun _ => ⟨g, 0, rfl, fun j hj => by rw [Nat.zero_add]; exact h.cell j hj⟩) hl hb h.le

/-- What the law asks of a file that was written. -/
structure FileOK (F : List Nat) (W H j : Nat) (l : List Nat) : Prop where
  len : 7 ≤ F.length ∧ F.length ≤ 8388608
  byt : ∀ x ∈ F, x < 256
  back : ∃ Q, readS F = .ok (W, H, Q) ∧ render W H Q = l
  more : readS (F ++ [49]) = .error 33
  less : readS (F.take (F.length - 2)) = .error 32 ∨ (j = 1 ∧ readS (F.take (F.length - 2)) = .error 30)
theorem fileOK (txt : Bool) (W H : Nat) (l : List Nat) (hb : validB W H l = true) (hlt : ∀ j : Nat, l[j]?.getD 0 < 18446744073709551616) : FileOK (fileS txt W H (pixOf W l)) W H (if txt then 0 else 1) l := by
  obtain ⟨W', H', e1, e2, h1, h2, h3, hl, hr⟩ := valid_parts hb
  have e1' : W' = W := by omega
  have e2' : H' = H := by omega
  subst e1' e2'
  have hs : sizeS W' H' = true := sizeS_iff.2 ⟨h1, h2, h3⟩
  refine ⟨⟨fileS_len txt W' H' _ hs, fileS_lim txt W' H' _ hs⟩, fileS_byt _ _ _ _, ?_, read_more txt W' H' _ hs, ?_⟩
  · obtain ⟨Q, hq, hp⟩ := read_back txt W' H' (pixOf W' l) hs
    exact ⟨Q, hq, by rw [render_congr hp, ← valid_render W' H' l h1 hl hr hlt]⟩
  · rcases read_less txt W' H' (pixOf W' l) hs with h | ⟨h, k⟩
    · exact Or.inl h
    · exact Or.inr ⟨by rw [h]; rfl, k⟩

set_option maxHeartbeats 4000000 in
theorem back_any (x y : Int) (v : Value) (l : List Nat) (w : World) (hx : -9223372036854775808 ≤ x ∧ x ≤ 9223372036854775807) (hy : -9223372036854775808 ≤ y ∧ y ≤ 9223372036854775807) (hv : Seen w v l) (hlt : ∀ j : Nat, l[j]?.getD 0 < 18446744073709551616) (ht : TabAt w) :
    Calls Tryd.prog 5 #[.agg #[.int .i64 x, .int .i64 y, v]] w fun e w' => e = .returned (.bool true) ∧ Fr (fun _ => False) w w' := by
  obtain ⟨i0, hi, hz0, hz1, hz2⟩ := info_parts Tryd.info5
  have HV : Hid (Seen w v l) := hv
  have HLT : Hid (∀ j : Nat, l[j]?.getD 0 < 18446744073709551616) := hlt
  have HT : Hid (TabAt w) := ht
  have HXY : Hid ((-9223372036854775808 ≤ x ∧ x ≤ 9223372036854775807) ∧ (-9223372036854775808 ≤ y ∧ y ≤ 9223372036854775807)) := ⟨hx, hy⟩
  obtain ⟨ao, cap, rfl, hll, _⟩ := hv
  have HF1 : Hid (Fr (fun _ => False) w (w.alloc (.cells #[.int .i64 x, .int .i64 y, .slice ao l.length cap] 25))) := (Fr.refl _ w).alloc _
  have HB1 : Hid ((w.alloc (.cells #[.int .i64 x, .int .i64 y, .slice ao l.length cap] 25)).heap[w.heap.size]? = some (.cells #[.int .i64 x, .int .i64 y, .slice ao l.length cap] 25 (0, 0))) := heap_alloc_new w _
  clear hlt ht hx hy
  obtain ⟨n, hn⟩ : ∃ n, n = l.length := ⟨_, rfl⟩
  have HN : Hid (n = l.length) := hn
  rw [← hn] at hll HF1 HB1 HV ⊢
  clear hn
  go_enter Tryd.func5, Tryd.ntmps5
  go_upto_region 1 with (fail)
  generalize (w.alloc (.cells #[.int .i64 x, .int .i64 y, .slice ao n cap] 25)) = w1 at *
  obtain ⟨B, hB⟩ : ∃ B, B = w.heap.size := ⟨_, rfl⟩
  rw [← hB] at HB1 ⊢
  have HB : Hid (B = w.heap.size) := hB
  clear hB
  have HBW : Hid (∀ w', Fr (fun _ => False) w1 w' → w'.cell? ⟨B, 0, none⟩ = some (.int .i64 x) ∧ w'.cell? ⟨B, 1, none⟩ = some (.int .i64 y) ∧ w'.cell? ⟨B, 2, none⟩ = some (.slice ao n cap) ∧ Seen w' (.slice ao n cap) l ∧ TabAt w') := fun w' f => by
    have h1 : w'.heap[B]? = _ := (f.block _ (lt_of_block HB1.out) (fun h => h)).trans HB1.out
    obtain ⟨c0, c1, c2, _⟩ := cell_of_three h1
    exact ⟨c0, c1, c2, HV.out.kept (HF1.out.trans f (fun _ _ h => h)), HT.out.kept (HF1.out.trans f (fun _ _ h => h))⟩
  obtain ⟨c0, c1, c2, hs1, _⟩ := HBW.out w1 (Fr.refl _ _)
  have HS1 : Hid (Seen w1 (.slice ao n cap) l) := hs1
  clear hs1
  go_wp2_with fail
  refine Calls.mono (may_any x y (.slice ao n cap) l w1 HXY.out.1 HXY.out.2 HS1.out HLT.out) ?_
  rintro e w2 ⟨rfl, hf2⟩
  have HF2 : Hid (Fr (fun _ => False) w1 w2) := hf2
  clear hf2 c0 c1 c2 HS1
  obtain ⟨c0, c1, c2, _⟩ := HBW.out w2 HF2.out
  cases hvb : validB x y l
  · go_wp2_with fail
    refine Calls.mono (wakes_any w2 (HBW.out w2 HF2.out).2.2.2.2) ?_
    rintro e w3 ⟨rfl, hf3⟩
    go_wp2_with fail
    go_ret
    exact ⟨rfl, (HF1.out.trans HF2.out (fun _ _ h => h)).trans hf3 (fun _ _ h => h)⟩
  · have HVB : Hid (validB x y l = true) := hvb
    clear hvb
    go_wp2_with fail
    have HF3 : Hid (Fr (fun _ => False) w1 (w2.alloc (.cells #[.int .i64 x, .int .i64 y, .slice ao n cap] 25))) := HF2.out.alloc _
    have HSM : Hid (∀ i, i < 1 → ∃ ao' l' c', (w2.alloc (.cells #[.int .i64 x, .int .i64 y, .slice ao n cap] 25)).cell? ⟨w2.heap.size, 0 + i * 3 + 2, none⟩ = some (.slice ao' l' c')) := fun i hi => by
      have hi0 : i = 0 := by omega
      subst hi0
      obtain ⟨_, _, k2, _⟩ := cell_of_three (heap_alloc_new w2 (.cells #[.int .i64 x, .int .i64 y, .slice ao n cap] 25))
      exact ⟨ao, n, cap, k2⟩
    generalize (w2.alloc (.cells #[.int .i64 x, .int .i64 y, .slice ao n cap] 25)) = w3 at *
    refine Calls.mono (small_any w2.heap.size 0 1 1 60000 w3 (by omega) HSM.out) ?_
    rintro e w4 ⟨bb, rfl, q, hw4⟩
    have HF4 : Hid (Fr (fun _ => False) w1 w4) := by rw [hw4]; exact HF3.out.drewN q
    clear hw4 HSM HF3 c0 c1 c2
    cases bb
    · go_wp2_with fail
      refine Calls.mono (wakes_any w4 (HBW.out w4 HF4.out).2.2.2.2) ?_
      rintro e w5 ⟨rfl, hf5⟩
      go_wp2_with fail
      go_ret
      exact ⟨rfl, (HF1.out.trans HF4.out (fun _ _ h => h)).trans hf5 (fun _ _ h => h)⟩
    · obtain ⟨W, H, rfl, rfl, _⟩ := valid_size HVB.out
      have HFO : Hid (∀ j : Nat, j < 2 → ∃ F, FileOK F W H j l ∧ ∀ w', Fr (fun _ => False) w1 w' → Calls Tryd.prog 8 #[.agg #[.int .i64 (W : Int), .int .i64 (H : Int), .slice ao n cap], .int .i64 (j : Int)] w' fun e w'' => Fr (fun _ => False) w' w'' ∧ ∃ r, e = .returned (.tuple #[r, .int .i64 0]) ∧ FileR w' F r w'') := fun j hj => by
        rcases (by omega : j = 0 ∨ j = 1) with rfl | rfl
        · exact ⟨_, fileOK true W H l HVB.out HLT.out, fun w' f => write_ok true W H _ l w' (HBW.out w' f).2.2.2.1 HLT.out HVB.out (HBW.out w' f).2.2.2.2⟩
        · exact ⟨_, fileOK false W H l HVB.out HLT.out, fun w' f => write_ok false W H _ l w' (HBW.out w' f).2.2.2.1 HLT.out HVB.out (HBW.out w' f).2.2.2.2⟩
      go_wp2_with fail
      go_loopw [3] (fun k wr => ∃ j : Nat, j ≤ 2 ∧ k = .int .i64 j ∧ Fr (fun _ => False) w1 wr) (fun k _ => 2 - (intOf k).toNat)
      case atStart => exact ⟨0, by omega, rfl, HF4.out⟩
      case round =>
        obtain ⟨j, hj, rfl, hf⟩ := hrel
        have HFr : Hid (Fr (fun _ => False) w1 wr) := hf
        clear hf
        by_cases hj2 : j < 2
        · obtain ⟨F, hok, hwr⟩ := HFO.out j hj2
          have HOK : Hid (FileOK F W H j l) := hok
          have HWR : Hid (∀ w', Fr (fun _ => False) w1 w' → Calls Tryd.prog 8 #[.agg #[.int .i64 (W : Int), .int .i64 (H : Int), .slice ao n cap], .int .i64 (j : Int)] w' fun e w'' => Fr (fun _ => False) w' w'' ∧ ∃ r, e = .returned (.tuple #[r, .int .i64 0]) ∧ FileR w' F r w'') := hwr
          have hl7 : 7 ≤ F.length := hok.len.1
          have hl8 : F.length ≤ 8388608 := hok.len.2
          clear hok hwr
          obtain ⟨c0, c1, c2, _⟩ := HBW.out wr HFr.out
          go_wp2_with fail
          refine Calls.mono (HWR.out wr HFr.out) ?_
          rintro e w5 ⟨hf5, r5, rfl, g5, p5, rfl, hr5, _⟩
          have HF5 : Hid (Fr (fun _ => False) w1 w5) := HFr.out.trans hf5 (fun _ _ h => h)
          have HR5 : Hid (RowM w5 g5 p5 F) := hr5
          clear hf5 hr5 c0 c1 c2
          obtain ⟨nf, hnf⟩ : ∃ nf, nf = F.length := ⟨_, rfl⟩
          have HNF : Hid (nf = F.length) := hnf
          rw [← hnf] at hl7 hl8 ⊢
          have HCP : Hid (∀ w' g p, RowM w' g p F → Calls Tryd.prog 20 #[.slice (some ⟨g, 0, none⟩) nf p] w' fun e w'' => Fr (fun _ => False) w' w'' ∧ ∃ g' p', e = .returned (.slice (some ⟨g', 0, none⟩) nf p') ∧ RowM w'' g' p' F ∧ w'.heap.size ≤ g') := fun w' g p h => by
            rw [hnf]
            exact copy_row g 0 p F w' (by omega) (by omega) (fun j hj => by rw [Nat.zero_add]; exact h.cell j hj)
          have HRD : Hid (∀ w' g p L k, k = L.length → L.length ≤ 16777216 → (∀ x ∈ L, x < 256) → RowM w' g p L → Calls Tryd.prog 14 #[.slice (some ⟨g, 0, none⟩) k p] w' (ReadQ w' (readS L))) := fun w' g p L k hk hl hb h => by
            rw [hk]
            exact read_row g p L w' h (by omega) hb
          clear hnf
          go_wp2_with fail
          refine Calls.mono (HCP.out w5 g5 p5 HR5.out) ?_
          rintro e w6 ⟨hf6, g6, p6, rfl, hr6, _⟩
          have HF6 : Hid (Fr (fun _ => False) w1 w6) := HF5.out.trans hf6 (fun _ _ h => h)
          have HF56 : Hid (Fr (fun _ => False) w5 w6) := hf6
          have HR6 : Hid (RowM w6 g6 p6 F) := hr6
          clear hf6 hr6
          go_wp2_with fail
          refine Calls.mono (HRD.out w6 g6 p6 F nf HNF.out (by have := HOK.out.len.2; omega) HOK.out.byt HR6.out) ?_
          obtain ⟨Q, hq, hwords⟩ := HOK.out.back
          rw [hq]
          rintro e w7 ⟨hf7, v7, rfl, g7, p7, hv7, ho7, hg7, _⟩
          simp only at hv7 ho7
          rw [hwords] at ho7
          have HNN : Hid (H * stride W = n) := by show _ = _; rw [← length_render W H Q, hwords, HN.out]
          rw [HNN.out] at hv7 ho7
          subst hv7
          have HF7 : Hid (Fr (fun _ => False) w1 w7) := HF6.out.trans hf7 (fun _ _ h => h)
          have HF57 : Hid (Fr (fun _ => False) w5 w7) := HF56.out.trans hf7 (fun _ _ h => h)
          have HS7 : Hid (Seen w7 (.slice (some ⟨g7, 0, none⟩) n p7) l) := by
            show Seen _ _ _
            rw [HN.out] at ho7 ⊢
            exact Seen.of_row ho7 (by have := hll; rw [HN.out] at this; exact this)
          clear hf7 ho7 hg7 hq hwords HF6 HF56
          go_upto_region 10 with (fail)
          have HF8 : Hid (Fr (fun _ => False) w7 (w7.alloc (.cells #[.int .i64 (W : Int), .int .i64 (H : Int), .slice (some ⟨g7, 0, none⟩) n p7] 25))) := (Fr.refl _ w7).alloc _
          have HB8 := heap_alloc_new w7 (.cells #[.int .i64 (W : Int), .int .i64 (H : Int), .slice (some ⟨g7, 0, none⟩) n p7] 25)
          generalize (w7.alloc (.cells #[.int .i64 (W : Int), .int .i64 (H : Int), .slice (some ⟨g7, 0, none⟩) n p7] 25)) = w8 at *
          obtain ⟨d0, d1, d2, _⟩ := cell_of_three HB8
          obtain ⟨c0, c1, c2, hs8, _⟩ := HBW.out w8 (HF7.out.trans HF8.out (fun _ _ h => h))
          have HS8 : Hid (Seen w8 (.slice ao n cap) l) := hs8
          clear hs8 HB8
          go_wp2_with fail
          refine Calls.mono (eqBitmap_int (W : Int) (H : Int) (.slice ao n cap) (.slice (some ⟨g7, 0, none⟩) n p7) l w8 HS8.out (HS7.out.kept HF8.out)) ?_
          rintro e w9 ⟨rfl, hf9⟩
          have HF9 : Hid (Fr (fun _ => False) w1 w9) := (HF7.out.trans HF8.out (fun _ _ h => h)).trans hf9 (fun _ _ h => h)
          have HF59 : Hid (Fr (fun _ => False) w5 w9) := (HF57.out.trans HF8.out (fun _ _ h => h)).trans hf9 (fun _ _ h => h)
          have HR9 : Hid (RowM w9 g5 p5 F) := HR5.out.kept HF59.out (fun h => h)
          clear hf9 c0 c1 c2 d0 d1 d2 HS8 HS7 HF8 HF7 HF57
          go_wp2_with fail
          refine Calls.mono (HCP.out w9 g5 p5 HR9.out) ?_
          rintro e w10 ⟨hf10, g10, p10, rfl, hr10, _⟩
          have HF10 : Hid (Fr (fun _ => False) w1 w10) := HF9.out.trans hf10 (fun _ _ h => h)
          have HF910 : Hid (Fr (fun _ => False) w9 w10) := hf10
          have HR10 : Hid (RowM w10 g10 p10 F) := hr10
          have HNEW : Hid (w9.heap.size ≤ g10) := by assumption
          clear hf10 hr10
          go_wp2_with (first | (at_builtin; refine wpList_append_m _ rfl _ _ 27 rfl i0 Tryd.underlying27 hi hz0 hz1 hz2 g10 p10 nf F HNF.out rfl (HR10.out.kept ((Fr.refl (fun _ => False) w10).alloc _) (fun h => h)) _ 1 1 [49] rfl rfl (by decide) one_cells (by have := HOK.out.len.2; omega) ?_))
          intro g11 p11 w11 hr11 hf11 hg11
          have HR11 : Hid (RowM w11 g11 p11 (F ++ [49])) := hr11
          have HF911 : Hid (Fr (fun _ => False) w9 w11) := (HF910.out.alloc _).trans hf11 (fun i hi e => by have := HNEW.out; omega)
          have HF11 : Hid (Fr (fun _ => False) w1 w11) := HF9.out.trans HF911.out (fun _ _ h => h)
          clear hr11 hf11 hg11
          go_wp2_with fail
          refine Calls.mono (HRD.out w11 g11 p11 (F ++ [49]) (nf + 1) (by rw [List.length_append, HNF.out]; rfl) (by have := HOK.out.len.2; simp; omega) (fun x hx => by
            rcases List.mem_append.1 hx with h | h
            · exact HOK.out.byt x h
            · simp at h; omega) HR11.out) ?_
          rw [HOK.out.more]
          rintro e w12 ⟨hf12, he12⟩
          simp only at he12
          subst he12
          have HF12 : Hid (Fr (fun _ => False) w1 w12) := HF11.out.trans hf12 (fun _ _ h => h)
          have HR12 : Hid (RowM w12 g5 p5 F) := HR9.out.kept (HF911.out.trans hf12 (fun _ _ h => h)) (fun h => h)
          have hcp5 : nf ≤ p5 := by rw [HNF.out]; exact HR12.out.le
          have hcm5 : p5 ≤ maxLen := HR12.out.mx
          unfold maxLen at hcm5
          clear hf12 HF11 HF911 HR11 HR10 HF10 HF910 HNEW
          obtain ⟨m, hm⟩ : ∃ m, m = nf - 2 := ⟨_, rfl⟩
          have hm2 : (nf : Int) - 2 = (m : Int) := by omega
          have hm5 : 5 ≤ m := by omega
          have hmn : m ≤ nf := by omega
          have HM : Hid (m = nf - 2) := hm
          clear hm
          go_wp2_with fail
          have hml : (F.take m).length = m := by rw [List.length_take, ← HNF.out]; omega
          have HCC : Hid (Calls Tryd.prog 20 #[.slice (some ⟨g5, 0, none⟩) m p5] w12 fun e w'' => Fr (fun _ => False) w12 w'' ∧ ∃ g' p', e = .returned (.slice (some ⟨g', 0, none⟩) m p') ∧ RowM w'' g' p' (F.take m) ∧ w12.heap.size ≤ g') := by
            have h := copy_row g5 0 p5 (F.take m) w12 (by omega) (by omega) (fun j hj => by
              rw [Nat.zero_add, HR12.out.cell j (by rw [← HNF.out]; omega), List.getElem?_take, if_pos (by omega)])
            rw [hml] at h
            exact h
          have HML : Hid ((F.take m).length = m) := hml
          clear hml
          refine Calls.mono HCC.out ?_
          rintro e w13 ⟨hf13, g13, p13, rfl, hr13, _⟩
          have HF13 : Hid (Fr (fun _ => False) w1 w13) := HF12.out.trans hf13 (fun _ _ h => h)
          have HR13 : Hid (RowM w13 g13 p13 (F.take m)) := hr13
          clear hf13 hr13 HCC
          go_wp2_with fail
          refine Calls.mono (HRD.out w13 g13 p13 (F.take m) m HML.out.symm (by rw [HML.out]; omega) (fun x hx => HOK.out.byt x (List.mem_of_mem_take hx)) HR13.out) ?_
          have HER : Hid (∃ er : Nat, readS (F.take m) = .error er ∧ (er = 32 ∨ (er = 30 ∧ j = 1))) := by
            have h := HOK.out.less
            rw [← HNF.out, ← HM.out] at h
            rcases h with h | ⟨h1, h2⟩
            · exact ⟨32, h, Or.inl rfl⟩
            · exact ⟨30, h2, Or.inr ⟨rfl, h1⟩⟩
          obtain ⟨er, her, hcase⟩ := HER.out
          rw [her]
          rintro e w14 ⟨hf14, he14⟩
          simp only [zeroB] at he14
          subst he14
          have HF14 : Hid (Fr (fun _ => False) w1 w14) := HF13.out.trans hf14 (fun _ _ h => h)
          clear hf14 her
          go_upto_region 14 with (fail)
          have HF15 : Hid (Fr (fun _ => False) w1 (w14.alloc (.cells #[.int .i64 0, .int .i64 0, .slice none 0 0] 25))) := HF14.out.alloc _
          generalize (w14.alloc (.cells #[.int .i64 0, .int .i64 0, .slice none 0 0] 25)) = w15 at *
          rcases hcase with rfl | ⟨rfl, rfl⟩
          · go_wp2_with fail
            go_roundw
            case rel => exact ⟨j + 1, by omega, congrArg (Value.int .i64) (by omega), HF15.out⟩
            case measure => simp [intOf]; omega
          · go_wp2_with fail
            go_roundw
            case rel => exact ⟨1 + 1, by omega, congrArg (Value.int .i64) (by omega), HF15.out⟩
            case measure => simp [intOf]
        · have hj22 : j = 2 := by omega
          subst hj22
          go_wp2_with fail
          refine Calls.mono (wakes_any wr (HBW.out wr HFr.out).2.2.2.2) ?_
          rintro e w5 ⟨rfl, hf5⟩
          go_wp2_with fail
          go_ret
          exact ⟨rfl, (HF1.out.trans HFr.out (fun _ _ h => h)).trans hf5 (fun _ _ h => h)⟩
end Go.Proofs.YtpfajkkjnobdlaaDoor
