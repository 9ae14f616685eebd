/- 'SegmentBack', by contracts. -/
import Derived.Test.YtamonbkhpbdojaaDoorSx
namespace Go.Proofs.YtamonbkhpbdojaaDoor
set_option maxRecDepth 100000
open Go.RowKit

theorem RowS.bytes {w : World} {v : Value} {l : List Nat} (h : RowS w v (byteCells l)) : ∃ ao c, v = .slice ao l.length c := by
  obtain ⟨ao, c, e⟩ := h.slice
  exact ⟨ao, c, by rw [e, length_byteCells]⟩

/-- What a header's bytes say where they stand among others; where they are cut. -/
theorem decS_among {s : Seg} {d : Nat} (A M : List Nat) (ok : OkS s d) (hA : Byts A) (hM : Byts M) : decS (A ++ (hdrB s d ++ M)) (A.length : Int) = (0, s, d, A.length + (hdrB s d).length) := by
  unfold decS
  rw [if_pos ⟨by omega, by rw [List.length_append]; omega⟩, Int.toNat_natCast, segS_fwd A M s d ok hA hM]
theorem decS_cut {s : Seg} {d : Nat} (A M : List Nat) (k : Nat) (ok : OkS s d) (hA : Byts A) (hk : k < (hdrB s d).length) : (decS ((A ++ (hdrB s d ++ M)).take (A.length + k)) (A.length : Int)).1 = 163 := by
  rw [take_app, List.take_append_of_le_length (by omega)]
  unfold decS
  rw [if_pos ⟨by omega, by rw [List.length_append]; omega⟩, Int.toNat_natCast]
  exact segS_cut A s d k ok hA hk

theorem row_nil (w : World) : RowS w (.slice none 0 0) (byteCells []) := ⟨none, 0, rfl, by simp [byteCells], fun h => absurd rfl h⟩
/-- A segment that is read, and one that was handed in, both without data: the same. -/
theorem eqBare (g : Seg) (s : SgX) (D : List Nat) (hs : ofSeg g D = s) (u1 u2 v1 v2 : Value) (w : World) (h1 : RowS w u1 (iCells (g.refs.map fun (n : Nat) => (n : Int)))) (h2 : RowS w u2 (boolCells g.keep)) (k1 : RowS w v1 (iCells s.refs)) (k2 : RowS w v2 (boolCells s.keep)) :
    Calls Tryd.prog 13 #[.agg #[.int .i64 (g.num : Int), .int .i64 (g.kind : Int), .int .i64 (g.page : Int), u1, u2, .bool g.stay, .slice none 0 0], .agg #[.int .i64 s.num, .int .i64 s.kind, .int .i64 s.page, v1, v2, .bool s.stay, .slice none 0 0]] w fun e w' => e = .returned (.bool true) ∧ Fr (fun _ => False) w w' := by
  subst hs
  exact eqSegment_same (ofSeg g []) u1 u2 (.slice none 0 0) v1 v2 (.slice none 0 0) w ⟨h1, h2, row_nil w⟩ ⟨k1, k2, row_nil w⟩ (by simp [ofSeg])

set_option linter.unusedSimpArgs false in
set_option maxHeartbeats 8000000 in
theorem back_any (ao : Option Addr) (n cap : Nat) (A : Nat → SgR) (aA : Option Addr) (cA : Nat) (LA : List Nat) (aM : Option Addr) (cM : Nat) (LM : List Nat) (w : World) (h : SgsAt w ao n A) (hA : DB w aA cA LA) (hM : DB w aM cM LM) (hr : RulesAt w) :
    Calls Tryd.prog 5 #[.agg #[.slice ao n cap, .slice aA LA.length cA, .slice aM LM.length cM]] w fun e w' => e = .returned (.bool true) ∧ Fr (fun _ => False) w w' := by
  obtain ⟨i0, hi, hz0, hz1, hz2⟩ := info_parts Tryd.info5
  have HRU : Hid (RulesAt w) := hr
  have hlen := h.len
  have HP : Hid (SgsAt w ao n A) := h
  have HDA : Hid (DB w aA cA LA) := hA
  have HDM : Hid (DB w aM cM LM) := hM
  have HWK : Hid (∀ w', Fr (fun _ => False) w w' → Calls Tryd.prog 14 #[] w' fun e w'' => e = .returned (.bool true) ∧ Fr (fun _ => False) w' w'') := fun w' f => wakes_any w' (HRU.out.kept f (fun h => h))
  clear h hr hA hM
  obtain ⟨nA, hnA⟩ : ∃ x, x = LA.length := ⟨_, rfl⟩
  obtain ⟨nM, hnM⟩ : ∃ x, x = LM.length := ⟨_, rfl⟩
  have HNA : Hid (nA = LA.length) := hnA
  have HNM : Hid (nM = LM.length) := hnM
  have hlA : nA ≤ 140737488351232 := by rw [hnA]; exact HDA.out.lim
  have hlM : nM ≤ 140737488351232 := by rw [hnM]; exact HDM.out.lim
  rw [← hnA, ← hnM]
  clear hnA hnM
  have HB1 : Hid ((w.alloc (.cells #[.slice ao n cap, .slice aA nA cA, .slice aM nM cM] 45)).heap[w.heap.size]? = some (.cells #[.slice ao n cap, .slice aA nA cA, .slice aM nM cM] 45 (0, 0))) := heap_alloc_new w _
  have HF1 : Hid (Fr (fun _ => False) w (w.alloc (.cells #[.slice ao n cap, .slice aA nA cA, .slice aM nM cM] 45))) := (Fr.refl _ _).alloc _
  have hws : IntKind.i64.wrap ((nA : Int) + (nM : Int)) = (nA : Int) + (nM : Int) := by rw [IntKind.wrap_i64]; omega
  by_cases hbig : 2000 < nA + nM
  · have hd0 : decide ((2000 : Int) < (nA : Int) + (nM : Int)) = true := decide_eq_true (by omega)
    go_enter Tryd.func5, Tryd.ntmps5
    go_wp2_with fail
    refine (HWK.out _ HF1.out).mono ?_
    rintro e w1 ⟨rfl, hf1⟩
    go_wp2_with fail
    go_ret
    exact ⟨rfl, HF1.out.trans hf1 (fun _ _ h => h)⟩
  have hd0 : decide ((2000 : Int) < (nA : Int) + (nM : Int)) = false := decide_eq_false (by omega)
  have HSM : Hid (nA + nM ≤ 2000) := by show _ ≤ _; omega
  go_enter Tryd.func5, Tryd.ntmps5
  go_wp2_with fail
  generalize (w.alloc (.cells #[.slice ao n cap, .slice aA nA cA, .slice aM nM cM] 45)) = w1 at *
  have HN0 : Hid (w.heap.size < w1.heap.size) := lt_of_block HB1.out
  generalize w.heap.size = n0 at *
  have HBX : Hid (∀ w', Fr (fun _ => False) w1 w' → w'.cell? ⟨n0, 0, none⟩ = some (.slice ao n cap) ∧ w'.cell? ⟨n0, 1, none⟩ = some (.slice aA nA cA) ∧ w'.cell? ⟨n0, 2, none⟩ = some (.slice aM nM cM)) := fun w' f => by
    have y := blkOld f HB1.out
    simp [World.cell?, y]
  clear hbig hws hd0
  go_loopw [3, 4, 5, 6, 7, 8, 9, 10, 11, 12] (fun i _ _ _ _ _ _ _ _ _ wr => ∃ (k : Nat), k ≤ n ∧ k ≤ 10 ∧ i = .int .i64 (k : Int) ∧ Hid (Fr (fun _ => False) w1 wr)) (fun i _ _ _ _ _ _ _ _ _ _ => (10 - (intOf i).toNat))
  case atStart => exact ⟨0, by omega, by omega, rfl, Fr.refl _ _⟩
  case round =>
    obtain ⟨k, hk, hk10, rfl, HFR⟩ := hrel
    obtain ⟨p0, p1, p2⟩ := HBX.out _ HFR.out
    by_cases hlt : k < n
    · have hd : decide ((k : Int) < (n : Int)) = true := decide_eq_true (by omega)
      by_cases hl10 : k < 10
      · have hd2 : decide ((k : Int) < 10) = true := decide_eq_true (by omega)
        obtain ⟨b, off, rfl, hc⟩ := HP.out.cells (by omega)
        have HC0 := (show Hid _ from hc k hlt)
        have HSA := (show Hid _ from HP.out.ok k hlt)
        clear hc
        generalize A k = y at HC0 HSA
        obtain ⟨s, vr, vk, vd⟩ := y
        try simp only at HC0 HSA
        obtain ⟨a1, c1, rfl⟩ := HSA.out.refs.slice
        obtain ⟨a2, c2, rfl⟩ := HSA.out.keep.slice
        obtain ⟨a3, c3, rfl⟩ := HSA.out.data.slice
        rw [length_iCells, length_boolCells, length_byteCells] at *
        have HC : Hid (∀ w', Fr (fun _ => False) w1 w' → w'.cell? ⟨b, off + k * 7, none⟩ = some (.int .i64 s.num) ∧ w'.cell? ⟨b, off + k * 7 + 1, none⟩ = some (.int .i64 s.kind) ∧ w'.cell? ⟨b, off + k * 7 + 2, none⟩ = some (.int .i64 s.page) ∧ w'.cell? ⟨b, off + k * 7 + 3, none⟩ = some (.slice a1 s.refs.length c1) ∧ w'.cell? ⟨b, off + k * 7 + 4, none⟩ = some (.slice a2 s.keep.length c2) ∧ w'.cell? ⟨b, off + k * 7 + 5, none⟩ = some (.bool s.stay) ∧ w'.cell? ⟨b, off + k * 7 + 6, none⟩ = some (.slice a3 s.data.length c3)) := fun w' f => by
          have f2 := HF1.out.trans f (fun _ _ h => h)
          obtain ⟨e0, e1, e2, e3, e4, e5, e6⟩ := HC0.out
          exact ⟨f2.cell e0 (fun h => h), f2.cell e1 (fun h => h), f2.cell e2 (fun h => h), f2.cell e3 (fun h => h), f2.cell e4 (fun h => h), f2.cell e5 (fun h => h), f2.cell e6 (fun h => h)⟩
        clear HC0
        obtain ⟨q0, q1, q2, q3, q4, q5, q6⟩ := HC.out _ HFR.out
        by_cases hR : 2000 < s.refs.length
        · have hd3 : decide ((2000 : Int) < (s.refs.length : Int)) = true := decide_eq_true (by omega)
          go_wp2_with fail
          go_roundw
          case rel => exact ⟨k + 1, by omega, by omega, congrArg (Value.int .i64) (by omega), HFR.out⟩
          case measure => simp [intOf]; omega
        have hd3 : decide ((2000 : Int) < (s.refs.length : Int)) = false := decide_eq_false (by omega)
        by_cases hD : 100000 < s.data.length
        · have hd4 : decide ((100000 : Int) < (s.data.length : Int)) = true := decide_eq_true (by omega)
          go_wp2_with fail
          go_roundw
          case rel => exact ⟨k + 1, by omega, by omega, congrArg (Value.int .i64) (by omega), HFR.out⟩
          case measure => simp [intOf]; omega
        have hd4 : decide ((100000 : Int) < (s.data.length : Int)) = false := decide_eq_false (by omega)
        have HRD : Hid (s.refs.length ≤ 2000 ∧ s.data.length ≤ 100000) := ⟨by omega, by omega⟩
        clear hR hD
        have HEN : Hid (Calls Tryd.prog 8 #[.agg #[.int .i64 s.num, .int .i64 s.kind, .int .i64 s.page, .slice a1 s.refs.length c1, .slice a2 s.keep.length c2, .bool s.stay, .slice a3 s.data.length c3]] wr (EncP wr s)) := encode_any s _ _ _ wr (HSA.out.kept (HF1.out.trans HFR.out (fun _ _ h => h))) (HRU.out.kept (HF1.out.trans HFR.out (fun _ _ h => h)) (fun h => h))
        cases hck : chk s
        · have HCK : Hid (∀ w', Fr (fun _ => False) w1 w' → Calls Tryd.prog 10 #[.agg #[.int .i64 s.num, .int .i64 s.kind, .int .i64 s.page, .slice a1 s.refs.length c1, .slice a2 s.keep.length c2, .bool s.stay, .slice a3 s.data.length c3]] w' fun e w'' => e = .returned (.bool false) ∧ Fr (fun _ => False) w' w'') := fun w' f => by
            have f2 := HF1.out.trans f (fun _ _ h => h)
            have := check_any s _ _ _ w' (HSA.out.kept f2) (HRU.out.kept f2 (fun h => h))
            rw [hck] at this
            exact this
          have HCF : Hid (chk s = false) := hck
          clear hck
          go_wp2_with fail
          refine HEN.out.mono ?_
          rintro e w2 ⟨hf2, ⟨hc, _⟩ | ⟨_, rfl⟩⟩
          · rw [HCF.out] at hc; cases hc
          have HF2 : Hid (Fr (fun _ => False) w1 w2) := HFR.out.trans hf2 (fun _ _ h => h)
          clear q0 q1 q2 q3 q4 q5 q6 p0 p1 p2 hf2
          obtain ⟨p0, p1, p2⟩ := HBX.out _ HF2.out
          obtain ⟨q0, q1, q2, q3, q4, q5, q6⟩ := HC.out _ HF2.out
          go_wp2_with fail
          refine (HCK.out _ HF2.out).mono ?_
          rintro e w3 ⟨rfl, hf3⟩
          have HF3 : Hid (Fr (fun _ => False) w1 w3) := HF2.out.trans hf3 (fun _ _ h => h)
          go_wp2_with fail
          go_roundw
          case rel => exact ⟨k + 1, by omega, by omega, congrArg (Value.int .i64) (by omega), HF3.out⟩
          case measure => simp [intOf]; omega
        · obtain ⟨hsg, ok⟩ := chk_seg hck
          obtain ⟨g, hg⟩ : ∃ g, g = toSeg s := ⟨_, rfl⟩
          rw [← hg] at hsg ok
          obtain ⟨d, hdd⟩ : ∃ d, d = s.data.length := ⟨_, rfl⟩
          have HOK : Hid (OkS g d) := by rw [hdd]; exact ok
          have HSS : Hid (ofSeg g s.data = s) := hsg
          obtain ⟨H, hH⟩ : ∃ H, H = hdrB g d := ⟨_, rfl⟩
          have HHB : Hid (H = hdrB g d) := hH
          have HHL : Hid (H.length ≤ 131085 ∧ 0 < H.length) := by
            show _ ∧ _
            rw [hH]; exact ⟨hdr_len HOK.out, hdr_pos _ _⟩
          have HEO : Hid (Calls Tryd.prog 8 #[.agg #[.int .i64 s.num, .int .i64 s.kind, .int .i64 s.page, .slice a1 s.refs.length c1, .slice a2 s.keep.length c2, .bool s.stay, .slice a3 s.data.length c3]] wr fun e w' => Fr (fun _ => False) wr w' ∧ ∃ fo fc, e = .returned (.tuple #[.slice fo H.length fc, .int .i64 0]) ∧ BytesAt w' wr.heap.size (.slice fo H.length fc) H) := by
            refine HEN.out.mono ?_
            rintro e w' ⟨hf, ⟨_, rv, rfl, hby⟩ | ⟨hc, _⟩⟩
            · rw [← hg, ← hdd, ← hH] at hby
              obtain ⟨fo, fc, rfl⟩ := own_slice hby
              exact ⟨hf, fo, fc, rfl, hby⟩
            · rw [hck] at hc; cases hc
          clear HEN hck hsg ok hg hH
          go_wp2_with fail
          refine HEO.out.mono ?_
          rintro e w2 ⟨hf2, fo, fc, rfl, hby⟩
          have HF2 : Hid (Fr (fun _ => False) w1 w2) := HFR.out.trans hf2 (fun _ _ h => h)
          have HBY : Hid (BytesAt w2 wr.heap.size (.slice fo H.length fc) H) := hby
          clear q0 q1 q2 q3 q4 q5 q6 p0 p1 p2 hf2 hby HEO
          obtain ⟨m, hm⟩ : ∃ m, m = H.length := ⟨_, rfl⟩
          have HM : Hid (m = H.length) := hm
          have hmm := HHL.out
          rw [← hm] at hmm ⊢
          clear hm
          go_wp2_with fail
          go_upto_region 11 with (fail)
          have HKS : Hid (∀ w', Fr (fun _ => False) w2 w' → (fun w' => w'.cell? ⟨n0, 1, none⟩ = some (.slice aA nA cA) ∧ w'.cell? ⟨n0, 2, none⟩ = some (.slice aM nM cM)) w') := fun w' f => (HBX.out w' (HF2.out.trans f (fun _ _ h => h))).2
          have HCY : Hid (∀ w', Fr (fun _ => False) w2 w' → Calls Tryd.prog 19 #[.slice aA nA cA] w' fun e w'' => ∃ rv, e = .returned rv ∧ w''.ownsRow w'.heap.size 5 1 rv nA (byteCells LA) ∧ Fr (fun _ => False) w' w'') := fun w' f => by
            have := copy_any aA cA LA w' (HDA.out.kept (HF1.out.trans (HF2.out.trans f (fun _ _ h => h)) (fun _ _ h => h)))
            rw [← HNA.out] at this
            exact this
          have hsum := HSM.out
          go_cut [6] from 73 to 80 (fun u6 wc => wc.ownsRow 0 5 1 u6 (nA + (m + nM)) (byteCells (LA ++ (H ++ LM))) ∧ Fr (fun _ => False) w2 wc)
          case first =>
            refine wp_region_held_drew (S := fun w' => w'.cell? ⟨n0, 1, none⟩ = some (.slice aA nA cA) ∧ w'.cell? ⟨n0, 2, none⟩ = some (.slice aM nM cM)) (by kernel_rfl) (HKS.out _ (Fr.refl _ _).drew) (fun hHeld => ?_)
            refine wpAnyH_take (i := 0) (oi := _) (v := ?vv0) rfl (by kernel_rfl) (by kernel_rfl) (by kernel_rfl) (fun _ _ _ h => h) (Or.inl ⟨by kernel_rfl, ?hy0⟩) (by assumption) ?_
            case hy0 => (intro w hSw; (try dsimp only at hSw); obtain ⟨s0, s1⟩ := hSw; go_simp; all_goals (with_reducible rfl))
            (try simp only [Act.put, List.setIfInBounds_toArray, List.set_cons_zero, List.set_cons_succ])
            refine wpAnyH_take (i := 1) (oi := _) (v := ?vv1) rfl (by kernel_rfl) (by kernel_rfl) (by kernel_rfl) (fun _ _ _ h => h) (Or.inl ⟨by kernel_rfl, ?hy1⟩) (by assumption) ?_
            case hy1 => (intro w hSw; (try dsimp only at hSw); obtain ⟨s0, s1⟩ := hSw; go_simp; all_goals (with_reducible rfl))
            (try simp only [Act.put, List.setIfInBounds_toArray, List.set_cons_zero, List.set_cons_succ])
            refine wpAnyH_take (i := 3) (oi := _) (v := ?vv3) rfl (by kernel_rfl) (by kernel_rfl) (by kernel_rfl) (fun _ _ _ h => h) (Or.inl ⟨by kernel_rfl, ?hy3⟩) (by assumption) ?_
            case hy3 => (intro w hSw; (try dsimp only at hSw); obtain ⟨s0, s1⟩ := hSw; go_simp; all_goals (with_reducible rfl))
            (try simp only [Act.put, List.setIfInBounds_toArray, List.set_cons_zero, List.set_cons_succ])
            refine wpAnyH_take (i := 5) (oi := _) (v := ?vv5) rfl (by kernel_rfl) (by kernel_rfl) (by kernel_rfl) (fun _ _ _ h => h) (Or.inl ⟨by kernel_rfl, ?hy5⟩) (by assumption) ?_
            case hy5 => (intro w hSw; (try dsimp only at hSw); obtain ⟨s0, s1⟩ := hSw; go_simp; all_goals (with_reducible rfl))
            (try simp only [Act.put, List.setIfInBounds_toArray, List.set_cons_zero, List.set_cons_succ])
            refine wpAnyH_take (i := 6) (oi := _) (v := ?vv6) rfl (by kernel_rfl) (by kernel_rfl) (by kernel_rfl) (fun _ _ _ h => h) (Or.inl ⟨by kernel_rfl, ?hy6⟩) (by assumption) ?_
            case hy6 => (intro w hSw; (try dsimp only at hSw); obtain ⟨s0, s1⟩ := hSw; go_simp; all_goals (with_reducible rfl))
            (try simp only [Act.put, List.setIfInBounds_toArray, List.set_cons_zero, List.set_cons_succ])
            refine wpAnyH_ready (rs := [2]) (by kernel_rfl) (by simp) ?_
            refine AllReadyH.cons (o := _) rfl (fun C hC => ?_) AllReadyH.nil
            go_simp
            refine (HCY.out _ (Fr.refl _ _).drew).mono ?_
            rintro e w3 ⟨rv, rfl, ho3, hf3⟩
            have HO3 : Hid (w3.ownsRow w2.heap.size 5 1 rv nA (byteCells LA)) := ho3
            have HF3 : Hid (Fr (fun _ => False) w2 w3) := (Fr.refl _ w2).drew.trans hf3 (fun _ _ h => h)
            clear ho3 hf3
            go_simp
            refine hC.out _ _ (HKS.out _ HF3.out) (fun hHeld => ?_)
            clear hC C
            (try simp only [Act.put, List.setIfInBounds_toArray, List.set_cons_zero, List.set_cons_succ])
            have HH3 : Hid (0 < m → ∃ ad, fo = some ad ∧ ∀ j u, (byteCells H)[j]? = some u → w3.cell? (ad.add j) = some u) := fun hm => by
              have hby := HBY.out
              rw [← HM.out] at hby
              obtain ⟨ao', cap', e1, hdb⟩ := DB.of_row HBY.out (by rw [HHB.out]; exact hdr_byts HOK.out) (by rw [← HM.out]; omega)
              rw [← HM.out] at e1
              simp only [Value.slice.injEq] at e1
              obtain ⟨rfl, _, rfl⟩ := e1
              exact (hdb.kept HF3.out).cells (by rw [← HM.out]; exact hm)
            refine wpAnyH_ready (rs := [4]) (by kernel_rfl) (by simp) ?_
            refine AllReadyH.cons (o := _) rfl (fun C hC => ?_) AllReadyH.nil
            refine step_append_any _ rfl (.tmp 75) (.tmp 76) 25 rfl w2.heap.size 5 i0 (.int .u8 0) 1 1 Tryd.underlying25 hi hz0 hz1 hz2 rfl (by decide) rv nA (byteCells LA) (by rfl) HO3.out fo m fc (byteCells H) (by rfl) (by rw [length_byteCells, ← HM.out]; omega) HH3.out (byteCells_one H) (by unfold maxLen; omega) (by omega) HF3.out.size ?_
            intro v4 w4 ho4 hg4
            have HB3 : Hid (∀ kk, rv.ownBlock = some kk → w2.heap.size ≤ kk) := fun kk e => (HO3.out.lt kk e).1
            have HF4 : Hid (Fr (fun _ => False) w2 w4) := HF3.out.grown hg4 (fun kk e hk => by have := HB3.out kk e; omega)
            have HO4 : Hid (w4.ownsRow w2.heap.size 5 1 v4 (nA + m) (byteCells LA ++ byteCells H)) := ho4
            clear ho4 hg4
            refine hC.out _ _ (HKS.out _ HF4.out) (fun hHeld => ?_)
            clear hC C
            (try simp only [Act.put, List.setIfInBounds_toArray, List.set_cons_zero, List.set_cons_succ])
            have HM4 : Hid (0 < nM → ∃ ad, aM = some ad ∧ ∀ j u, (byteCells LM)[j]? = some u → w4.cell? (ad.add j) = some u) := fun hm => (HDM.out.kept (HF1.out.trans (HF2.out.trans HF4.out (fun _ _ h => h)) (fun _ _ h => h))).cells (by rw [← HNM.out]; exact hm)
            refine wpAnyH_ready (rs := [7]) (by kernel_rfl) (by simp) ?_
            refine AllReadyH.cons (o := _) rfl (fun C hC => ?_) AllReadyH.nil
            refine step_append_any _ rfl (.tmp 77) (.tmp 79) 25 rfl w2.heap.size 5 i0 (.int .u8 0) 1 1 Tryd.underlying25 hi hz0 hz1 hz2 rfl (by decide) v4 (nA + m) (byteCells LA ++ byteCells H) (by rfl) HO4.out aM nM cM (byteCells LM) (by rfl) (by rw [length_byteCells, ← HNM.out]; omega) HM4.out (byteCells_one LM) (by unfold maxLen; omega) (by omega) HF4.out.size ?_
            intro v5 w5 ho5 hg5
            have HB4 : Hid (∀ kk, v4.ownBlock = some kk → w2.heap.size ≤ kk) := fun kk e => (HO4.out.lt kk e).1
            have HF5 : Hid (Fr (fun _ => False) w2 w5) := HF4.out.grown hg5 (fun kk e hk => by have := HB4.out kk e; omega)
            have HO5 : Hid (w5.ownsRow 0 5 1 v5 (nA + (m + nM)) (byteCells (LA ++ (H ++ LM)))) := by
              show World.ownsRow _ _ _ _ _ _ _
              rw [byteCells_append, byteCells_append, ← List.append_assoc, show nA + (m + nM) = nA + m + nM by omega]
              exact ownsRow_base ho5 (fun _ _ => Nat.zero_le _)
            clear ho5 hg5
            refine hC.out _ _ (HKS.out _ HF5.out) (fun hHeld => ?_)
            clear hC C
            (try simp only [Act.put, List.setIfInBounds_toArray, List.set_cons_zero, List.set_cons_succ])
            refine wpAnyH_ready (rs := [8]) (by kernel_rfl) (by simp) ?_
            refine AllReadyH.cons (o := _) rfl (fun C hC => ?_) AllReadyH.nil
            go_simp
            refine hC.out _ _ hHeld (fun hHeld => ?_)
            refine wpAnyH_done (by kernel_rfl) ?_ _
            go_wp2_with fail
            go_meet
            go_light
            exact ⟨HO5.out, HF5.out⟩
          case rest =>
            obtain ⟨ho6, hf6⟩ := hcut
            obtain ⟨L, hL⟩ : ∃ L, L = LA ++ (H ++ LM) := ⟨_, rfl⟩
            obtain ⟨N, hN⟩ : ∃ N, N = nA + (m + nM) := ⟨_, rfl⟩
            have HLN : Hid (L.length = N) := by
              show _ = _
              rw [hL, hN, List.length_append, List.length_append, HNA.out, HNM.out, HM.out]
            have HBA : Hid (Byts LA ∧ Byts LM ∧ Byts L) := by
              have h1 : Byts H := by rw [HHB.out]; exact hdr_byts HOK.out
              exact ⟨HDA.out.byt, HDM.out.byt, by rw [hL]; exact Byts.app HDA.out.byt (h1.app HDM.out.byt)⟩
            rw [← hL, ← hN] at ho6
            have HFC : Hid (Fr (fun _ => False) w1 wc) := HF2.out.trans hf6 (fun _ _ h => h)
            have HDX : ∃ bb boff bc, u6 = .slice (some ⟨bb, boff, none⟩) N bc ∧ DB wc (some ⟨bb, boff, none⟩) bc L := by
              have h1 : BytesAt wc 0 u6 L := by unfold BytesAt; rw [HLN.out]; exact ho6
              obtain ⟨bo, bc, e1, hdb⟩ := DB.of_row h1 HBA.out.2.2 (by rw [HLN.out]; omega)
              obtain ⟨bb, boff, rfl, _⟩ := hdb.seen (fun e => by have := HLN.out; rw [e] at this; simp at this; omega)
              exact ⟨bb, boff, bc, by rw [e1, HLN.out], hdb⟩
            obtain ⟨bb, boff, bc, rfl, hdb⟩ := HDX
            have HDB : Hid (DB wc (some ⟨bb, boff, none⟩) bc L) := hdb
            have hbc : N ≤ bc := by have := hdb.cp; rw [HLN.out] at this; exact this
            have HLL : Hid (L = LA ++ (hdrB g d ++ LM)) := by show _ = _; rw [hL, HHB.out]
            obtain ⟨E1, hE1⟩ : ∃ E1 : Int, E1 = (nA : Int) + (m : Int) := ⟨_, rfl⟩
            have HE1 : Hid (E1 = ((nA + m : Nat) : Int)) := by show _ = _; omega
            have HDE : Hid (∀ w', Fr (fun _ => False) wc w' → Calls Tryd.prog 16 #[.slice (some ⟨bb, boff, none⟩) N bc, .int .i64 (nA : Int)] w' fun en w'' => Fr (fun _ => False) w' w'' ∧ ∃ r1 rc1 r2 rc2, en = .returned (.tuple #[.agg #[.int .i64 (g.num : Int), .int .i64 (g.kind : Int), .int .i64 (g.page : Int), .slice r1 g.refs.length rc1, .slice r2 g.keep.length rc2, .bool g.stay, .slice none 0 0], .int .i64 (d : Int), .int .i64 E1, .int .i64 0]) ∧ RowS w'' (.slice r1 g.refs.length rc1) (iCells (g.refs.map fun (n : Nat) => (n : Int))) ∧ RowS w'' (.slice r2 g.keep.length rc2) (boolCells g.keep)) := fun w' f => by
              have f2 := HF1.out.trans (HFC.out.trans f (fun _ _ h => h)) (fun _ _ h => h)
              have hdec : decS L (nA : Int) = (0, g, d, nA + m) := by
                rw [HLL.out, HNA.out, decS_among LA LM HOK.out HBA.out.1 HBA.out.2.1, ← HHB.out, ← HM.out]
              have := decode_law (some ⟨bb, boff, none⟩) bc L (nA : Int) w' (HDB.out.kept f) (HRU.out.kept f2 (fun h => h)) 0 g d (nA + m) hdec
              rw [HLN.out] at this
              refine this.mono ?_
              rintro en w'' ⟨hf, r1, rc1, r2, rc2, rfl, hr1, hr2⟩
              have q1 := Nat.le_trans HOK.out.many (mostN_le _ _)
              have q2 := HOK.out.num
              have q3 := HOK.out.keep
              exact ⟨hf, r1, rc1, r2, rc2, by rw [HE1.out]; rfl, RowS.of_ints hr1 (by omega), RowS.of_bools hr2 (by omega)⟩
            have HDC : Hid (∀ (k2 : Nat) w', k2 < m → Fr (fun _ => False) wc w' → Calls Tryd.prog 16 #[.slice (some ⟨bb, boff, none⟩) (nA + k2) bc, .int .i64 (nA : Int)] w' fun en w'' => Fr (fun _ => False) w' w'' ∧ ∃ v0 v1 v2, en = .returned (.tuple #[v0, v1, v2, .int .i64 163])) := fun k2 w' hk2 f => by
              have f2 := HF1.out.trans (HFC.out.trans f (fun _ _ h => h)) (fun _ _ h => h)
              have hcut := decS_cut LA LM k2 HOK.out HBA.out.1 (by rw [← HHB.out, ← HM.out]; exact hk2)
              rw [← HLL.out, ← HNA.out] at hcut
              obtain ⟨s', d', e', hR⟩ : ∃ s' d' e', decS (L.take (nA + k2)) (nA : Int) = (163, s', d', e') := ⟨_, _, _, Prod.ext hcut rfl⟩
              have hlt : (L.take (nA + k2)).length = nA + k2 := by rw [List.length_take, HLN.out]; omega
              have := decode_law (some ⟨bb, boff, none⟩) bc (L.take (nA + k2)) (nA : Int) w' ((HDB.out.kept f).take _) (HRU.out.kept f2 (fun h => h)) 163 s' d' e' hR
              rw [hlt] at this
              refine this.mono ?_
              rintro en w'' ⟨hf, r1, rc1, r2, rc2, rfl, _, _⟩
              exact ⟨hf, _, _, _, rfl⟩
            have HEQ : Hid (∀ w' u1 u2, Fr (fun _ => False) w1 w' → RowS w' u1 (iCells (g.refs.map fun (n : Nat) => (n : Int))) → RowS w' u2 (boolCells g.keep) → Calls Tryd.prog 13 #[.agg #[.int .i64 (g.num : Int), .int .i64 (g.kind : Int), .int .i64 (g.page : Int), u1, u2, .bool g.stay, .slice none 0 0], .agg #[.int .i64 s.num, .int .i64 s.kind, .int .i64 s.page, .slice a1 s.refs.length c1, .slice a2 s.keep.length c2, .bool s.stay, .slice none 0 0]] w' fun e w'' => e = .returned (.bool true) ∧ Fr (fun _ => False) w' w'') := fun w' u1 u2 f k1 k2 => by
              have hsa := HSA.out.kept (HF1.out.trans f (fun _ _ h => h))
              exact eqBare g s s.data HSS.out u1 u2 _ _ w' k1 k2 hsa.refs hsa.keep
            have HNE : Hid (N = nA + (m + nM)) := hN
            have t1 : ((d : Int) != (s.data.length : Int)) = false := by rw [hdd]; simp
            have t2 : (E1 != E1) = false := by simp
            have t3 : (nA : Int) + (m : Int) = E1 := hE1.symm
            have t4 : IntKind.i64.wrap E1 = E1 := by rw [IntKind.wrap_i64]; omega
            clear ho6 hf6 hdb hL hN hE1 HKS HCY
            obtain ⟨p0, p1, p2⟩ := HBX.out _ HFC.out
            go_wp2_with fail
            refine (HDE.out _ (Fr.refl _ _)).mono ?_
            rintro en w6 ⟨hf6, r1, rc1, r2, rc2, rfl, hr1, hr2⟩
            have HF6 : Hid (Fr (fun _ => False) w1 w6) := HFC.out.trans hf6 (fun _ _ h => h)
            have HFC6 : Hid (Fr (fun _ => False) wc w6) := hf6
            have HR1 : Hid (RowS w6 (.slice r1 g.refs.length rc1) (iCells (g.refs.map fun (n : Nat) => (n : Int)))) := hr1
            have HR2 : Hid (RowS w6 (.slice r2 g.keep.length rc2) (boolCells g.keep)) := hr2
            clear hf6 hr1 hr2 p0 p1 p2
            go_upto_region 13 with (fail)
            have HF7 : Hid (Fr (fun _ => False) w1 (w6.alloc (.cells #[.int .i64 (g.num : Int), .int .i64 (g.kind : Int), .int .i64 (g.page : Int), .slice r1 g.refs.length rc1, .slice r2 g.keep.length rc2, .bool g.stay, .slice none 0 0] 27))) := HF6.out.alloc _
            have HR7 : Hid (RowS (w6.alloc (.cells #[.int .i64 (g.num : Int), .int .i64 (g.kind : Int), .int .i64 (g.page : Int), .slice r1 g.refs.length rc1, .slice r2 g.keep.length rc2, .bool g.stay, .slice none 0 0] 27)) (.slice r1 g.refs.length rc1) (iCells (g.refs.map fun (n : Nat) => (n : Int))) ∧ RowS (w6.alloc (.cells #[.int .i64 (g.num : Int), .int .i64 (g.kind : Int), .int .i64 (g.page : Int), .slice r1 g.refs.length rc1, .slice r2 g.keep.length rc2, .bool g.stay, .slice none 0 0] 27)) (.slice r2 g.keep.length rc2) (boolCells g.keep)) := ⟨HR1.out.kept ((Fr.refl _ _).alloc _), HR2.out.kept ((Fr.refl _ _).alloc _)⟩
            have HB7 : Hid ((w6.alloc (.cells #[.int .i64 (g.num : Int), .int .i64 (g.kind : Int), .int .i64 (g.page : Int), .slice r1 g.refs.length rc1, .slice r2 g.keep.length rc2, .bool g.stay, .slice none 0 0] 27)).heap[w6.heap.size]? = some (.cells #[.int .i64 (g.num : Int), .int .i64 (g.kind : Int), .int .i64 (g.page : Int), .slice r1 g.refs.length rc1, .slice r2 g.keep.length rc2, .bool g.stay, .slice none 0 0] 27 (0, 0))) := heap_alloc_new w6 _
            have HFC7 : Hid (Fr (fun _ => False) wc (w6.alloc (.cells #[.int .i64 (g.num : Int), .int .i64 (g.kind : Int), .int .i64 (g.page : Int), .slice r1 g.refs.length rc1, .slice r2 g.keep.length rc2, .bool g.stay, .slice none 0 0] 27))) := HFC6.out.alloc _
            clear HF6 HFC6 HR1 HR2
            generalize (w6.alloc (.cells #[.int .i64 (g.num : Int), .int .i64 (g.kind : Int), .int .i64 (g.page : Int), .slice r1 g.refs.length rc1, .slice r2 g.keep.length rc2, .bool g.stay, .slice none 0 0] 27)) = w7 at *
            generalize w6.heap.size = b7 at *
            obtain ⟨p0, p1, p2⟩ := HBX.out _ HF7.out
            obtain ⟨q0, q1, q2, q3, q4, q5, q6⟩ := HC.out _ HF7.out
            go_upto_region 15 with (fail)
            have HF8 : Hid (Fr (fun _ => False) w1 (w7.alloc (.cells #[.int .i64 s.num, .int .i64 s.kind, .int .i64 s.page, .slice a1 s.refs.length c1, .slice a2 s.keep.length c2, .bool s.stay, .slice none 0 0] 27))) := HF7.out.alloc _
            have HF78 : Hid (Fr (fun _ => False) w7 (w7.alloc (.cells #[.int .i64 s.num, .int .i64 s.kind, .int .i64 s.page, .slice a1 s.refs.length c1, .slice a2 s.keep.length c2, .bool s.stay, .slice none 0 0] 27))) := (Fr.refl _ _).alloc _
            have HB8 : Hid ((w7.alloc (.cells #[.int .i64 s.num, .int .i64 s.kind, .int .i64 s.page, .slice a1 s.refs.length c1, .slice a2 s.keep.length c2, .bool s.stay, .slice none 0 0] 27)).heap[w7.heap.size]? = some (.cells #[.int .i64 s.num, .int .i64 s.kind, .int .i64 s.page, .slice a1 s.refs.length c1, .slice a2 s.keep.length c2, .bool s.stay, .slice none 0 0] 27 (0, 0))) := heap_alloc_new w7 _
            clear p0 p1 p2 q0 q1 q2 q3 q4 q5 q6
            generalize (w7.alloc (.cells #[.int .i64 s.num, .int .i64 s.kind, .int .i64 s.page, .slice a1 s.refs.length c1, .slice a2 s.keep.length c2, .bool s.stay, .slice none 0 0] 27)) = w8 at *
            generalize w7.heap.size = b8 at *
            obtain ⟨p0, p1, p2⟩ := HBX.out _ HF8.out
            obtain ⟨q0, q1, q2, q3, q4, q5, q6⟩ := HC.out _ HF8.out
            have y7 := blkOld HF78.out HB7.out
            have y8 := HB8.out
            have g0 : w8.cell? ⟨b7, 0, none⟩ = some (.int .i64 (g.num : Int)) := by simp [World.cell?, y7]
            have g1 : w8.cell? ⟨b7, 1, none⟩ = some (.int .i64 (g.kind : Int)) := by simp [World.cell?, y7]
            have g2 : w8.cell? ⟨b7, 2, none⟩ = some (.int .i64 (g.page : Int)) := by simp [World.cell?, y7]
            have g3 : w8.cell? ⟨b7, 3, none⟩ = some (.slice r1 g.refs.length rc1) := by simp [World.cell?, y7]
            have g4 : w8.cell? ⟨b7, 4, none⟩ = some (.slice r2 g.keep.length rc2) := by simp [World.cell?, y7]
            have g5 : w8.cell? ⟨b7, 5, none⟩ = some (.bool g.stay) := by simp [World.cell?, y7]
            have g6 : w8.cell? ⟨b7, 6, none⟩ = some (.slice none 0 0) := by simp [World.cell?, y7]
            have h0 : w8.cell? ⟨b8, 0, none⟩ = some (.int .i64 s.num) := by simp [World.cell?, y8]
            have h1 : w8.cell? ⟨b8, 1, none⟩ = some (.int .i64 s.kind) := by simp [World.cell?, y8]
            have h2 : w8.cell? ⟨b8, 2, none⟩ = some (.int .i64 s.page) := by simp [World.cell?, y8]
            have h3 : w8.cell? ⟨b8, 3, none⟩ = some (.slice a1 s.refs.length c1) := by simp [World.cell?, y8]
            have h4 : w8.cell? ⟨b8, 4, none⟩ = some (.slice a2 s.keep.length c2) := by simp [World.cell?, y8]
            have h5 : w8.cell? ⟨b8, 5, none⟩ = some (.bool s.stay) := by simp [World.cell?, y8]
            have h6 : w8.cell? ⟨b8, 6, none⟩ = some (.slice none 0 0) := by simp [World.cell?, y8]
            clear y7 y8
            go_wp2_with fail
            refine (HEQ.out _ _ _ HF8.out (HR7.out.1.kept HF78.out) (HR7.out.2.kept HF78.out)).mono ?_
            rintro en w9 ⟨rfl, hf9⟩
            have HF9 : Hid (Fr (fun _ => False) w1 w9) := HF8.out.trans hf9 (fun _ _ h => h)
            have HFC9 : Hid (Fr (fun _ => False) wc w9) := (HFC7.out.trans HF78.out (fun _ _ h => h)).trans hf9 (fun _ _ h => h)
            clear g0 g1 g2 g3 g4 g5 g6 h0 h1 h2 h3 h4 h5 h6 p0 p1 p2 q0 q1 q2 q3 q4 q5 q6 hf9
            obtain ⟨p0, p1, p2⟩ := HBX.out _ HF9.out
            obtain ⟨q0, q1, q2, q3, q4, q5, q6⟩ := HC.out _ HF9.out
            go_wp2_with fail
            clear t1 t2 t3 t4 p0 p1 p2 q0 q1 q2 q3 q4 q5 q6
            obtain ⟨qm, hqm⟩ : ∃ qm, qm = m / 40 := ⟨_, rfl⟩
            have e2 : Int.tdiv (m : Int) 40 = (qm : Int) := by rw [Int.tdiv_eq_ediv_of_nonneg (by omega)]; omega
            have hq1 : qm ≤ 131085 := by omega
            have hdo : decide ((k : Int) < (n : Int)) = true := hd
            clear hqm
            go_loopw [10, 12] (fun _ i wr => ∃ (k2 : Nat), k2 ≤ 300000 ∧ i = .int .i64 (k2 : Int) ∧ Hid (Fr (fun _ => False) w1 wr) ∧ Hid (Fr (fun _ => False) wc wr)) (fun _ i _ => m - (intOf i).toNat)
            case atStart => exact ⟨0, by omega, rfl, HF9.out, HFC9.out⟩
            case round =>
              obtain ⟨k2, hk2, rfl, HFA, HFB⟩ := hrel
              by_cases hlt2 : k2 < m
              · have hd5 : decide ((k2 : Int) < (m : Int)) = true := decide_eq_true (by omega)
                obtain ⟨h2, hh2⟩ : ∃ h2, h2 = nA + k2 := ⟨_, rfl⟩
                have HKS2 : Hid (∀ w', Fr (fun _ => False) wr w' → (fun w' => w'.cell? ⟨n0, 1, none⟩ = some (.slice aA nA cA)) w') := fun w' f => (HBX.out w' (HFA.out.trans f (fun _ _ h => h))).2.1
                have HDC2 : Hid (∀ w', Fr (fun _ => False) wr w' → Calls Tryd.prog 16 #[.slice (some ⟨bb, boff, none⟩) h2 bc, .int .i64 (nA : Int)] w' fun en w'' => Fr (fun _ => False) w' w'' ∧ ∃ v0 v1 v2, en = .returned (.tuple #[v0, v1, v2, .int .i64 163])) := fun w' f => by rw [hh2]; exact HDC.out k2 w' hlt2 (HFB.out.trans f (fun _ _ h => h))
                have e1 : IntKind.i64.wrap ((k2 : Int) + 1) = (k2 : Int) + 1 := by rw [IntKind.wrap_i64]; omega
                have e3 : IntKind.i64.wrap (qm : Int) = (qm : Int) := by rw [IntKind.wrap_i64]; omega
                have e4 : IntKind.i64.wrap ((k2 : Int) + 1 + (qm : Int)) = (k2 : Int) + 1 + (qm : Int) := by rw [IntKind.wrap_i64]; omega
                have e5 : (nA : Int) + (k2 : Int) = (h2 : Int) := by omega
                have e6 : IntKind.i64.wrap (h2 : Int) = (h2 : Int) := by rw [IntKind.wrap_i64]; omega
                have b1 : (0 : Int) ≤ (h2 : Int) := by omega
                have b3 : (h2 : Int) ≤ (bc : Int) := by have := HNE.out; omega
                clear hh2
                have p1 := HKS2.out _ (Fr.refl _ _)
                simp only at p1
                go_wp2_with fail
                go_upto_region 20 with (fail)
                go_region_held3 (fun w' => w'.cell? ⟨n0, 1, none⟩ = some (.slice aA nA cA)) (exact HKS2.out _ (by repeat (first | with_reducible exact Fr.refl _ _ | with_reducible refine Fr.drew ?_ | (with_reducible refine Fr.trans ?_ hfd (fun _ _ h => h))))) ((go_at_call 16; refine (HDC2.out _ (by repeat (first | with_reducible exact Fr.refl _ _ | with_reducible refine Fr.drew ?_))).mono ?_; rintro en wd ⟨hfd, v0, v1, v2, rfl⟩))
                go_wp2_with fail
                exact ⟨⟨k2 + 1 + qm, by omega, congrArg (Value.int .i64) (by omega), HFA.out.drew.trans hfd (fun _ _ h => h), HFB.out.drew.trans hfd (fun _ _ h => h)⟩, by simp [intOf]; omega⟩
              · have hd5 : decide ((k2 : Int) < (m : Int)) = false := decide_eq_false (by omega)
                go_wp2_with fail
                go_roundw
                case rel => exact ⟨k + 1, by omega, by omega, congrArg (Value.int .i64) (by omega), HFA.out⟩
                case measure => simp [intOf]; omega
      · have hd2 : decide ((k : Int) < 10) = false := decide_eq_false (by omega)
        go_wp2_with fail
        refine (HWK.out _ (HF1.out.trans HFR.out (fun _ _ h => h))).mono ?_
        rintro e w1 ⟨rfl, hf1⟩
        go_wp2_with fail
        go_ret
        exact ⟨rfl, (HF1.out.trans HFR.out (fun _ _ h => h)).trans hf1 (fun _ _ h => h)⟩
    · have hd : decide ((k : Int) < (n : Int)) = false := decide_eq_false (by omega)
      go_wp2_with fail
      refine (HWK.out _ (HF1.out.trans HFR.out (fun _ _ h => h))).mono ?_
      rintro e w1 ⟨rfl, hf1⟩
      go_wp2_with fail
      go_ret
      exact ⟨rfl, (HF1.out.trans HFR.out (fun _ _ h => h)).trans hf1 (fun _ _ h => h)⟩
end Go.Proofs.YtamonbkhpbdojaaDoor
