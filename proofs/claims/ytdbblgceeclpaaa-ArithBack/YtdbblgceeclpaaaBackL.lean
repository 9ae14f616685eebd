/- The law 'ArithBack', walked. -/
import Derived.Test.YtdbblgceeclpaaaBack
namespace Go.Proofs.Ytdbblgceeclpaaa
open Go.RowKit

theorem cell_two_new (w : World) (a b : Value) (t : TypeId) (j : Nat) (u : Value) (h : [a, b][j]? = some u) : (w.alloc (.cells #[a, b] t)).cell? ((⟨w.heap.size, 0, none⟩ : Addr).add j) = some u :=
  (World.ownsRow_lit (base := 0) (e := t) (size := 2) w #[a, b] 1 (Nat.zero_le _) (by decide) rfl).cells rfl j u h

set_option maxRecDepth 100000 in
set_option maxHeartbeats 8000000 in
theorem back_any (mo : Int) (bmo : -9223372036854775808 ≤ mo ∧ mo ≤ 9223372036854775807) (ao : Option Addr) (nn cap : Nat) (K D : Nat → Int) (w : World) (h : DecsAt w ao nn K D) :
    Calls Try.prog 6 #[.agg #[.int .i64 mo, .slice ao nn cap]] w fun e w' => e = .returned (.bool true) ∧ Fr (fun _ => False) w w' := by
  have hnn := h.lim
  have HD : Hid (DecsAt w ao nn K D) := h
  clear h
  obtain ⟨i56, hi5, hz50, hz51, hz52⟩ := info_parts Try.info56
  obtain ⟨i22, hi2, hz20, hz21, hz22⟩ := info_parts Try.info22
  go_enter Try.func6, Try.ntmps6
  go_wp2_with fail
  refine (within_any mo 40 _ bmo (by decide) (by decide)).mono ?_
  obtain ⟨p, hp⟩ : ∃ p, p = placeOf mo 40 := ⟨_, rfl⟩
  have hp40 : p < 40 := by rw [hp]; exact placeOf_lt mo (by decide)
  rw [← hp]
  clear hp bmo
  rintro e w1 ⟨rfl, hw1⟩
  have HW1 : Hid (Fr (fun _ => False) w w1) := by rw [hw1]; exact (Fr.refl _ _).alloc _
  have hblk : w1.heap[w.heap.size]? = some (.cells #[.int .i64 mo, .slice ao nn cap] 51 (0, 0)) := by rw [hw1]; exact heap_alloc_new _ _
  obtain ⟨B, HB⟩ : ∃ B, Hid (B = w.heap.size) := ⟨_, rfl⟩
  rw [← HB.out] at hblk ⊢
  have c1 : w1.cell? ⟨B, 1, none⟩ = some (.slice ao nn cap) := by simp [World.cell?, hblk]
  have hBlt : B < w1.heap.size := lt_of_block hblk
  clear hw1 hblk
  obtain ⟨n, hn⟩ : ∃ n, n = 1 + p := ⟨_, rfl⟩
  have hni : 1 + (p : Int) = (n : Int) := by omega
  have hn1 : 1 ≤ n := by omega
  have hn2 : n ≤ 40 := by omega
  have HN : Hid (1 ≤ n ∧ n ≤ 131072) := ⟨by omega, by omega⟩
  obtain ⟨LA, HLA⟩ : ∃ LA, Hid (LA = fun j => lowBit (D j)) := ⟨_, rfl⟩
  have HL2 : Hid (∀ j, LA j < 2) := by intro j; rw [HLA.out]; exact lowBit_lt _
  clear hn
  go_wp2_with fail
  refine (new_any w1 n HN.out.1 HN.out.2).mono ?_
  rintro e w2 ⟨bc, gc, gb, rfl, hc2, hf2, s1, s2, s3⟩
  have HB0 : Hid (Bk w1 w2 n K LA bc gc gb 1 (.slice none 0 0) (.slice none 0 0) (fun _ => 0) 0 0 (runC n K LA 0)) :=
    ⟨hc2, hf2, ⟨s1, s2, s3⟩, ⟨rfl, Or.inl ⟨rfl, rfl⟩⟩, fun g hg => by simp [Value.ownBlock] at hg, ⟨rfl, Or.inl ⟨rfl, rfl⟩⟩, fun g hg => by simp [Value.ownBlock] at hg, fun i hi => absurd hi (Nat.not_lt_zero _), fun i hi => absurd hi (Nat.not_lt_zero _)⟩
  clear hc2 hf2 s1 s2 s3
  go_wp2_with fail
  go_loopw [6, 7, 8] (fun vs vl i wr => ∃ (k m gb' cb' : Nat) (G : Nat → Nat), k ≤ nn ∧ k ≤ 6000 ∧ m = min k 600 ∧ i = .int .i64 k ∧ Bk w1 wr n K LA bc gc gb' cb' vl vs G k m (runC n K LA k)) (fun _ _ i _ => 6000 - (intOf i).toNat)
  case atStart => exact ⟨0, 0, gb, 1, fun _ => 0, Nat.zero_le _, Nat.zero_le _, rfl, rfl, HB0.out⟩
  case round =>
    obtain ⟨k, m, gb', cb', G, hk, hk2, hm, rfl, hbk⟩ := hrel
    have HM : Hid (m = min k 600) := hm
    have hm6 : m ≤ 600 := by omega
    clear hm
    have cr := hbk.fr.cell c1 (fun hh => hh)
    obtain ⟨lo, lc, rfl⟩ := row_slice hbk.lrow
    obtain ⟨so, sc, rfl⟩ := row_slice hbk.srow
    have HBK : Hid (Bk w1 wr n K LA bc gc gb' cb' (.slice lo k lc) (.slice so m sc) G k m (runC n K LA k)) := hbk
    clear hbk
    by_cases hlt : k < nn ∧ k < 6000
    · obtain ⟨ha, hb⟩ := hlt
      obtain ⟨b, off, rfl, hcc⟩ := (HD.out.kept (HW1.out.trans HBK.out.fr (fun _ _ hh => hh))).at_ (by omega)
      obtain ⟨cK, cD⟩ := hcc k ha
      obtain ⟨bK, bD⟩ := HD.out.bd k ha
      clear hcc
      rw [Nat.add_zero] at cK
      obtain ⟨kk, hkk⟩ : ∃ kk, kk = K k := ⟨_, rfl⟩
      obtain ⟨dd, hdd⟩ : ∃ dd, dd = D k := ⟨_, rfl⟩
      rw [← hkk] at cK bK
      rw [← hdd] at cD bD
      have HKD : Hid (kk = K k ∧ dd = D k) := ⟨hkk, hdd⟩
      have HBK2 : Hid (-9223372036854775808 ≤ kk ∧ kk ≤ 9223372036854775807) := bK
      clear hkk hdd bK bD
      obtain ⟨bit, HBIT⟩ : ∃ bit, Hid (bit = lowBit dd) := ⟨_, rfl⟩
      have hand : bits BinOp.and IntKind.i64 dd 1 = (bit : Int) := by rw [HBIT.out]; exact lowBit_and dd
      have hbit : bit < 2 := by rw [HBIT.out]; exact lowBit_lt dd
      have HPU : Hid (∀ w', Fr (fun _ => False) wr w' → Calls Try.prog 11 #[.pointer (some ⟨bc, 0, none⟩), .int .i64 kk, .int .i64 (bit : Int)] w' fun e w'' => e = .returned (.int .i64 0) ∧ ∃ g2 c2, Bk w1 w'' n K LA bc gc g2 c2 (.slice lo k lc) (.slice so m sc) G k m (runC n K LA (k + 1)) ∧ Fr (fun j => j = bc ∨ j = gc ∨ j = gb') w' w'') := by
        intro w' f
        have hb' := HBK.out.later f
        obtain ⟨ok1, ok2, ok3⟩ := runC_ok HN.out.1 HN.out.2 K LA k (by omega)
        refine (put_any w' bc gc n gb' cb' _ hb'.co ok1 (by rw [ok2]; omega) kk HBK2.out bit hbit).mono ?_
        rintro e w'' ⟨rfl, g2, c2, hc, hs⟩
        have e2 : putP (runC n K LA k) kk bit = runC n K LA (k + 1) := by
          show _ = putP _ (K k) (LA k)
          have e3 : LA k = bit := by rw [HLA.out, HBIT.out, HKD.out.2]
          rw [e3, ← HKD.out.1]
        rw [e2] at hc
        exact ⟨rfl, g2, c2, hb'.put hc hs, hs.fr⟩
      have hbl : B < wr.heap.size := World.block_lt_of_cell? wr ⟨B, 1, none⟩ cr
      have hbb : b < wr.heap.size := World.block_lt_of_cell? wr ⟨b, off + k * 2, none⟩ cK
      go_wp2_with fail
      go_region
      generalize hA : World.drew _ = wA
      have hxb : wA.heap[wr.heap.size]? = some (.cells #[.int .i64 kk, .int .i64 (bit : Int)] 56 (0, 0)) := by rw [← hA]; exact heap_alloc_new _ _
      have HFA : Hid (Fr (fun _ => False) wr wA) := by rw [← hA]; exact ((Fr.refl _ _).alloc _).drew
      obtain ⟨xa, Hxa⟩ : ∃ xa, Hid (xa = wr.heap.size) := ⟨_, rfl⟩
      rw [← Hxa.out] at hxb ⊢
      have x0 : wA.cell? ⟨xa, 0, none⟩ = some (.int .i64 kk) := by simp [World.cell?, hxb]
      have x1 : wA.cell? ⟨xa, 1, none⟩ = some (.int .i64 (bit : Int)) := by simp [World.cell?, hxb]
      have HNX : Hid (¬ (xa = bc ∨ xa = gc ∨ xa = gb')) := by
        have a1 := HBK.out.co.lt
        have a2 := HBK.out.co.xlt
        have a3 := HBK.out.co.blt
        show ¬ _
        rw [Hxa.out]; omega
      clear hA hxb
      go_wp2_with fail
      refine (HPU.out wA HFA.out).mono ?_
      rintro e wB ⟨rfl, g2, c2, hbk2, hfB⟩
      have y0 := hfB.cell x0 HNX.out
      have y1 := hfB.cell x1 HNX.out
      have HB2 : Hid (Bk w1 wB n K LA bc gc g2 c2 (.slice lo k lc) (.slice so m sc) G k m (runC n K LA (k + 1))) := hbk2
      have hlrow := hbk2.lrow
      have HCD : Hid ([.int .i64 kk, .int .i64 (bit : Int)] = [Value.int .i64 (K k), .int .i64 (LA k : Nat)]) := by
        have e3 : LA k = bit := by rw [HLA.out, HBIT.out, HKD.out.2]
        show _ = _
        rw [e3, HKD.out.1]
      clear hbk2 hfB x0 x1 HPU cr cK cD
      go_wp2_with (first | (at_builtin; refine wpList_append_row _ rfl _ _ 49 rfl 56 i56 (.agg #[.int .i64 0, .int .i64 0]) 2 16 Try.underlying49 hi5 hz50 hz51 hz52 rfl (by decide) _ _ _ rfl (hlrow.alloc _) ⟨wB.heap.size, 0, none⟩ 1 1 _ rfl rfl (cell_two_new _ _ _ _) ?_ ?_ ?_ (by decide) ?_))
      · intro u hu; simp at hu; rcases hu with rfl | rfl <;> rfl
      · unfold maxLen; omega
      · omega
      · intro gl cl wC hownC hgrow hat hc' hm'
        have HB3 : Hid (Bk w1 wC n K LA bc gc g2 c2 (.slice (some ⟨gl, 0, none⟩) (k + 1) cl) (.slice so m sc) G (k + 1) m (runC n K LA (k + 1))) := by
          refine HB2.out.addL (((Fr.refl _ _).alloc _).grown hgrow (fun j hj _ => hj)) ?_ ?_
          · show wC.ownsRow 0 56 2 _ _ (decCells K LA k ++ [.int .i64 (K k), .int .i64 (LA k : Nat)])
            rw [← HCD.out]; exact hownC
          · intro g hg
            simp [Value.ownBlock] at hg
            subst hg
            rcases hat with e | e
            · exact HB2.out.lnew _ e
            · have hz := HB2.out.fr.size
              have e2 : wB.heap.size + 1 ≤ gl := by simpa using e
              omega
        clear hownC hgrow hat hlrow
        unfold maxLen at hm'
        by_cases h600 : k < 600
        · have HST : Hid (Calls Try.prog 16 #[.pointer (some ⟨bc, 0, none⟩)] wC fun e w' => ∃ g, e = .returned (.slice (some ⟨g, 0, none⟩) n n) ∧ w'.ownsRow 0 5 1 (.slice (some ⟨g, 0, none⟩) n n) n (byteCells (runC n K LA (k + 1)).x) ∧ Fr (fun _ => False) wC w' ∧ wC.heap.size ≤ g) := by
            obtain ⟨ok1, ok2, ok3⟩ := runC_ok HN.out.1 HN.out.2 K LA (k + 1) (by omega)
            have := states_at wC bc gc n _ ok1.pos ok1.lim (cell_of_seven HB3.out.co.blk).1 HB3.out.co.xs
            rw [ok3] at this
            exact this
          go_wp2_with fail
          refine HST.out.mono ?_
          rintro e wD ⟨q, rfl, hq, hfD, hqn⟩
          have HB4 : Hid (Bk w1 wD n K LA bc gc g2 c2 (.slice (some ⟨gl, 0, none⟩) (k + 1) cl) (.slice so m sc) G (k + 1) m (runC n K LA (k + 1))) := HB3.out.later hfD
          have HQ : Hid (wD.ownsRow 0 5 1 (.slice (some ⟨q, 0, none⟩) n n) n (byteCells (runC n K LA (k + 1)).x)) := hq
          have HQN : Hid (w1.heap.size ≤ q ∧ q ≠ g2) := by
            have a1 := HB3.out.fr.size
            have a2 := HB3.out.co.blt
            exact ⟨by omega, by omega⟩
          have hsrow := HB4.out.srow
          have HMK : Hid (m = k) := by have := HM.out; show _ = _; omega
          clear hq hfD hqn
          go_wp2_with (first | (at_builtin; refine wpList_append_row _ rfl _ _ 74 rfl 22 i22 (.slice none 0 0) 1 24 Try.underlying74 hi2 hz20 hz21 hz22 rfl (by decide) _ _ _ rfl (hsrow.alloc _) ⟨wD.heap.size, 0, none⟩ 1 1 _ rfl rfl (cell_one_new _ _ _) ?_ ?_ ?_ (by decide) ?_))
          · intro u hu; simp at hu; subst hu; rfl
          · unfold maxLen; omega
          · omega
          · intro gs cs wE hownE hgrowE hatE hcE hmE
            have HB5 : Hid (Bk w1 wE n K LA bc gc g2 c2 (.slice (some ⟨gl, 0, none⟩) (k + 1) cl) (.slice (some ⟨gs, 0, none⟩) (m + 1) cs) (fun j => if j = m then q else G j) (k + 1) (m + 1) (runC n K LA (k + 1))) := by
              refine HB4.out.addS (((Fr.refl _ _).alloc _).grown hgrowE (fun j hj _ => hj)) (fun j hj => if_neg (by omega)) ?_ ?_ ?_ ?_
              · show wE.ownsRow 0 22 1 _ _ (stCells (fun j => if j = m then q else G j) n m ++ [.slice (some ⟨if m = m then q else G m, 0, none⟩) n n])
                rw [if_pos rfl, stCells_congr n m (G' := G) (fun j hj => if_neg (by omega))]
                exact hownE
              · intro g hg
                simp [Value.ownBlock] at hg
                subst hg
                rcases hatE with e | e
                · exact HB4.out.snew _ e
                · have hz := HB4.out.fr.size
                  have e2 : wD.heap.size + 1 ≤ gs := by simpa using e
                  omega
              · show wD.ownsRow 0 5 1 (.slice (some ⟨if m = m then q else G m, 0, none⟩) n n) n _
                rw [if_pos rfl, HMK.out]
                exact HQ.out
              · show w1.heap.size ≤ (if m = m then q else G m) ∧ (if m = m then q else G m) ≠ g2
                rw [if_pos rfl]; exact HQN.out
            clear hownE hgrowE hatE hsrow
            go_wp2_with fail
            refine ⟨⟨k + 1, m + 1, g2, c2, _, by omega, by omega, by have := HM.out; omega, congrArg (Value.int .i64) (by omega), HB5.out⟩, by simp [intOf]; omega⟩
        · go_wp2_with fail
          refine ⟨⟨k + 1, m, g2, c2, G, by omega, by omega, by have := HM.out; omega, congrArg (Value.int .i64) (by omega), HB3.out⟩, by simp [intOf]; omega⟩
    · by_cases ha : k < nn
      · have hb : ¬ k < 6000 := by omega
        go_wp2_with fail
        have HOK : Hid (Ook (runC n K LA k) ∧ (runC n K LA k).made = k ∧ (runC n K LA k).x.length = n) := runC_ok HN.out.1 HN.out.2 K LA k (by omega)
        refine (flush_any wr bc gc n gb' cb' _ HBK.out.co HOK.out.1).mono ?_
        rintro e w4 ⟨q, nb, cpb, rfl, hse, hdo, hst, hq1, hq2⟩
        obtain ⟨r1, r2, r3, r4⟩ := HBK.out.flushed hst
        obtain ⟨FB, HFB⟩ : ∃ FB, Hid (FB = flushP (runC n K LA k).s) := ⟨_, rfl⟩
        rw [← HFB.out] at hse
        have hnb : nb = FB.length := by
          obtain ⟨ao', cp', e, _⟩ := hse
          simp only [Value.slice.injEq] at e
          exact e.2.1
        have HSE : Hid (SeenAt w4 (.slice (some ⟨q, 1, none⟩) nb cpb) FB) := hse
        have hnl : nb ≤ 140737488355328 := by
          obtain ⟨_, _, _, hl, _⟩ := hse
          omega
        have HNB : Hid (nb = FB.length) := hnb
        have HFL : Hid (∀ y ∈ FB, y < 256) := by
          intro y hy
          obtain ⟨i, hi, rfl⟩ := List.getElem_of_mem hy
          have R := reads_flush HOK.out.1.ok (runC_wb HN.out.1 HN.out.2 K LA k (by omega))
          rw [← HFB.out] at R
          have := R.lt (i + 1)
          rw [← R.bytes i] at this
          unfold byteD at this
          rw [List.getD_eq_getElem?_getD, List.getElem?_eq_getElem hi] at this
          exact this
        have HAF0 : Hid (DoAt w4 bc gc n (runC n K LA k).x ∧ w4.ownsRow 0 56 2 (.slice lo k lc) k (decCells K LA k) ∧ w4.ownsRow 0 22 1 (.slice so m sc) m (stCells G n m) ∧ (∀ i, i < m → w4.ownsRow 0 5 1 (.slice (some ⟨G i, 0, none⟩) n n) n (byteCells (runC n K LA (i + 1)).x)) ∧ Fr (fun _ => False) w1 w4) := ⟨hdo, r1, r2, r3, r4⟩
        clear hse hdo hst hq1 hq2 r1 r2 r3 r4 hnb cr HBK
        go_wp2_with fail
        refine (newDecoder_any w4 _ FB n HN.out.1 HN.out.2 HSE.out (Or.inr ⟨_, _, _, rfl⟩) HFL.out).mono ?_
        rintro e w5 ⟨bd, gd, vb, rfl, hd5, hf5, t1, t2, t3⟩
        have HAF : Hid (Af w1 w5 n K LA bc gc bd gd vb (.slice lo k lc) (.slice so m sc) G k m w4.heap.size (runC n K LA k).x FB (decRun FB n K 0)) := by
          obtain ⟨a1, a2, a3, a4, a5⟩ := HAF0.out
          exact ⟨a1.kept hf5 (fun hh => hh) (fun hh => hh), hd5, row_kept a2 hf5 (fun _ _ hh => hh), row_kept a3 hf5 (fun _ _ hh => hh), fun i hi => row_kept1 (a4 i hi) hf5 (fun hh => hh), a5.trans hf5 (fun _ _ hh => hh), ⟨a5.size, a1.lt, a1.xlt, fun g hg => (a2.lt g hg).2, fun g hg => (a3.lt g hg).2, fun i hi => ((a4 i hi).lt (G i) rfl).2⟩, ⟨t1, t2⟩⟩
        have HBC : Hid (∀ j, j < nb → w5.cell? ⟨q, 1 + j, none⟩ = some (.int .u8 (FB.getD j 0 : Nat))) := by
          intro j hj
          obtain ⟨ao', cp', e, _, hc⟩ := HSE.out.kept hf5 (fun _ _ hh => hh)
          obtain ⟨b', off', rfl, hcc⟩ := hc (by intro e; have := HNB.out; rw [e] at this; simp at this; omega)
          simp only [Value.slice.injEq, Option.some.injEq, Addr.mk.injEq] at e
          obtain ⟨⟨rfl, rfl, _⟩, _⟩ := e
          have := hcc j (by have := HNB.out; omega)
          rw [this, List.getD_eq_getElem?_getD]
        clear hd5 hf5 t1 t2 t3 HAF0 HSE
        go_wp2_with fail
        go_loopw [13] (fun i wr => ∃ (j : Nat), j ≤ nb ∧ i = .int .i64 j ∧ wr = w5) (fun i _ => nb - (intOf i).toNat)
        case atStart => exact ⟨0, Nat.zero_le _, rfl, rfl⟩
        case round =>
          obtain ⟨j, hj, rfl, hwr⟩ := hrel
          subst hwr
          by_cases hjn : j < nb
          · have cj := HBC.out j hjn
            obtain ⟨v, HV⟩ : ∃ v, Hid (v = FB.getD j 0) := ⟨_, rfl⟩
            rw [← HV.out] at cj
            have hv2 : v < 256 := by
              rw [HV.out, List.getD_eq_getElem?_getD, List.getElem?_eq_getElem (by have := HNB.out; omega)]
              exact HFL.out _ (List.getElem_mem _)
            by_cases hv : v = 255
            · subst hv
              have hbb := back_bytes HN.out.1 HN.out.2 K LA (m := k) (by omega) j (by rw [← HFB.out]; have := HNB.out; omega) (by rw [← HFB.out]; exact HV.out.symm)
              rw [← HFB.out] at hbb
              have hjn1 : j + 1 < nb := by have := HNB.out; omega
              have cj1 := HBC.out (j + 1) hjn1
              obtain ⟨v1, HV1⟩ : ∃ v1, Hid (v1 = FB.getD (j + 1) 0) := ⟨_, rfl⟩
              rw [← HV1.out] at cj1 hbb
              have hv1 : v1 ≤ 143 := hbb.2
              clear hbb
              have hq3 : ((j : Int) == (nb : Int) - 1) = false := by rw [beq_eq_false_iff_ne]; omega
              go_wp2_with fail
              refine ⟨⟨j + 1, by omega, congrArg (Value.int .i64) (by omega), trivial⟩, by simp [intOf]; omega⟩
            · have hq3 : ((v : Int) == 255) = false := by rw [beq_eq_false_iff_ne]; omega
              go_wp2_with fail
              refine ⟨⟨j + 1, by omega, congrArg (Value.int .i64) (by omega), trivial⟩, by simp [intOf]; omega⟩
          · have hjn2 : j = nb := by omega
            subst hjn2
            go_wp2_with fail
            go_loopw [14] (fun i wr => ∃ (j : Nat), j ≤ k ∧ i = .int .i64 j ∧ Af w1 wr n K LA bc gc bd gd vb (.slice lo k lc) (.slice so m sc) G k m w4.heap.size (runC n K LA k).x FB (decRun FB n K j)) (fun i _ => k - (intOf i).toNat)
            case atStart => exact ⟨0, Nat.zero_le _, rfl, HAF.out⟩
            case round =>
              obtain ⟨i, hik, rfl, haf⟩ := hrel
              have HA : Hid (Af w1 wr n K LA bc gc bd gd vb (.slice lo k lc) (.slice so m sc) G k m w4.heap.size (runC n K LA k).x FB (decRun FB n K i)) := haf
              clear haf
              have hBR := back_run HN.out.1 HN.out.2 K LA HL2.out (m := k) (by omega) i hik
              rw [← HFB.out] at hBR
              obtain ⟨_, hbx, hbb⟩ := hBR
              have HBX : Hid ((decRun FB n K i).x = (runC n K LA i).x) := hbx
              obtain ⟨oki1, oki2, oki3⟩ := runC_ok HN.out.1 HN.out.2 K LA i (by omega)
              by_cases hi2 : i < k
              · have HBB : Hid (getBit (decRun FB n K i) (K i) = LA i) := hbb hi2
                clear hbx hbb oki1 oki2 oki3
                obtain ⟨gl, cl2, e, _⟩ := row_form HA.out.lrow (by omega)
                simp only [Value.slice.injEq] at e
                obtain ⟨rfl, _, rfl⟩ := e
                have cC : wr.cell? ⟨gl, i * 2, none⟩ = some (.int .i64 (K i)) := by
                  rw [HA.out.lrow.cellAt (i * 2) (by omega)]; exact (decCells_get K LA k i hi2).1
                obtain ⟨kk, hkk⟩ : ∃ kk, kk = K i := ⟨_, rfl⟩
                obtain ⟨bK, _⟩ := HD.out.bd i (by omega)
                rw [← hkk] at cC bK
                have HKK : Hid (kk = K i) := hkk
                have HBK3 : Hid (-9223372036854775808 ≤ kk ∧ kk ≤ 9223372036854775807) := bK
                clear hkk bK
                obtain ⟨bt, HBT⟩ : ∃ bt, Hid (bt = LA i) := ⟨_, rfl⟩
                have hbt : bt < 2 := by rw [HBT.out]; exact HL2.out i
                have HGE : Hid (Calls Try.prog 15 #[.pointer (some ⟨bd, 0, none⟩), .int .i64 kk] wr fun e w' => e = .returned (.tuple #[.int .i64 (bt : Int), .int .i64 0]) ∧ Af w1 w' n K LA bc gc bd gd vb (.slice (some ⟨gl, 0, none⟩) k lc) (.slice so m sc) G k m w4.heap.size (runC n K LA k).x FB (decRun FB n K (i + 1))) := by
                  obtain ⟨eo, em⟩ := decRun_ok HN.out.1 HN.out.2 HFL.out K i (by omega)
                  refine (get_any wr bd gd n vb FB (decRun FB n K i) HA.out.de eo (by rw [em]; omega) kk HBK3.out).mono ?_
                  rw [HKK.out, HBB.out, ← HBT.out]
                  rintro e w' ⟨rfl, hd, hs⟩
                  exact ⟨rfl, HA.out.step hd hs⟩
                go_wp2_with fail
                refine HGE.out.mono ?_
                rintro e w6 ⟨rfl, ha6⟩
                have HA6 : Hid (Af w1 w6 n K LA bc gc bd gd vb (.slice (some ⟨gl, 0, none⟩) k lc) (.slice so m sc) G k m w4.heap.size (runC n K LA k).x FB (decRun FB n K (i + 1))) := ha6
                have cB : w6.cell? ⟨gl, i * 2 + 1, none⟩ = some (.int .i64 (bt : Int)) := by
                  rw [ha6.lrow.cellAt (i * 2 + 1) (by omega), HBT.out]; exact (decCells_get K LA k i hi2).2
                clear ha6 HGE HA
                have hbn : ((bt : Int) != (bt : Int)) = false := by simp
                by_cases h600 : i < 600
                · have hdec : decide ((i : Int) < 600) = true := decide_eq_true (by omega)
                  have him : i < m := by have := HM.out; omega
                  obtain ⟨gs, cs2, e, _⟩ := row_form HA6.out.srow (by omega)
                  simp only [Value.slice.injEq] at e
                  obtain ⟨rfl, _, rfl⟩ := e
                  have cS : w6.cell? ⟨gs, i, none⟩ = some (.slice (some ⟨G i, 0, none⟩) n n) := by
                    rw [HA6.out.srow.cellAt i (by omega)]; exact stCells_get G n m i him
                  have HXN : Hid ((decRun FB n K (i + 1)).x = (runC n K LA (i + 1)).x) := by
                    have := (back_run HN.out.1 HN.out.2 K LA HL2.out (m := k) (by omega) (i + 1) (by omega)).2.1
                    rw [← HFB.out] at this
                    exact this
                  have HSD : Hid (∀ w', Fr (fun _ => False) w6 w' → Calls Try.prog 16 #[.pointer (some ⟨bd, 0, none⟩)] w' fun e w'' => ∃ g, e = .returned (.slice (some ⟨g, 0, none⟩) n n) ∧ SeenAt w'' (.slice (some ⟨g, 0, none⟩) n n) (runC n K LA (i + 1)).x ∧ Fr (fun _ => False) w' w'') := by
                    intro w' f
                    have hd := (HA6.out.later f).de
                    obtain ⟨eo, em⟩ := decRun_ok HN.out.1 HN.out.2 HFL.out K (i + 1) (by omega)
                    obtain ⟨ok1, ok2, ok3⟩ := runC_ok HN.out.1 HN.out.2 K LA (i + 1) (by omega)
                    refine (states_at w' bd gd n _ eo.pos eo.lim (cell_of_seven hd.blk).1 hd.xs).mono ?_
                    rintro e w'' ⟨g, rfl, ho, f2, _⟩
                    have hse := SeenAt.of_row ho (by have := eo.lim; omega)
                    rw [HXN.out, ok3] at hse
                    exact ⟨g, by rw [HXN.out, ok3], hse, f2⟩
                  have HEQ : Hid (∀ (w' : World) (g : Nat), SeenAt w' (.slice (some ⟨g, 0, none⟩) n n) (runC n K LA (i + 1)).x → Fr (fun _ => False) w6 w' → Calls Try.prog 14 #[.slice (some ⟨g, 0, none⟩) n n, .slice (some ⟨G i, 0, none⟩) n n] w' fun e w'' => e = .returned (.bool true) ∧ Fr (fun _ => False) w' w'') := by
                    intro w' g s1 f
                    obtain ⟨ok1, ok2, ok3⟩ := runC_ok HN.out.1 HN.out.2 K LA (i + 1) (by omega)
                    have s2 : SeenAt w' (.slice (some ⟨G i, 0, none⟩) n n) (runC n K LA (i + 1)).x := by
                      have hr := (HA6.out.later f).seen i him
                      have hr2 : w'.ownsRow 0 5 1 (.slice (some ⟨G i, 0, none⟩) n n) (runC n K LA (i + 1)).x.length (byteCells (runC n K LA (i + 1)).x) := by rw [ok3]; exact hr
                      exact SeenAt.of_row hr2 (by have := ok1.lim; omega)
                    refine (eq_any _ _ _ _ w' s1 s2).mono ?_
                    rintro e w'' ⟨rfl, q, rfl⟩
                    exact ⟨by rw [decide_eq_true rfl], (Fr.refl _ _).drewN q⟩
                  have HKS : Hid (∀ w', Fr (fun _ => False) w6 w' → w'.cell? ⟨gl, i * 2 + 1, none⟩ = some (.int .i64 (bt : Int)) ∧ w'.cell? ⟨gs, i, none⟩ = some (.slice (some ⟨G i, 0, none⟩) n n)) := fun w' f => ⟨f.cell cB (fun hh => hh), f.cell cS (fun hh => hh)⟩
                  go_wp2_with fail
                  go_region_held3 (fun w' => w'.cell? ⟨gl, i * 2 + 1, none⟩ = some (.int .i64 (bt : Int)) ∧ w'.cell? ⟨gs, i, none⟩ = some (.slice (some ⟨G i, 0, none⟩) n n)) (exact HKS.out _ (by repeat (first | with_reducible exact Fr.refl _ _ | with_reducible refine Fr.drew ?_ | with_reducible refine Fr.trans ?_ hf8 (fun _ _ hh => hh) | with_reducible refine Fr.trans ?_ hf7 (fun _ _ hh => hh)))) (first | (go_at_call 14; refine (HEQ.out _ g7 sg7 (by with_reducible exact (((Fr.refl (fun _ => False) w6).drew).trans hf7 (fun _ _ hh => hh)))).mono ?_; rintro e w8 ⟨rfl, hf8⟩) | (go_at_call 16; refine (HSD.out _ (by with_reducible exact ((Fr.refl (fun _ => False) w6).drew))).mono ?_; rintro e w7 ⟨g7, rfl, sg7, hf7⟩))
                  go_wp2_with fail
                  refine ⟨⟨i + 1, by omega, congrArg (Value.int .i64) (by omega), HA6.out.later ((((Fr.refl _ _).drew).trans hf7 (fun _ _ hh => hh)).trans hf8 (fun _ _ hh => hh))⟩, by simp [intOf]; omega⟩
                · have hdec : decide ((i : Int) < 600) = false := decide_eq_false (by omega)
                  go_wp2_with fail
                  go_region
                  go_wp2_with fail
                  refine ⟨⟨i + 1, by omega, congrArg (Value.int .i64) (by omega), HA6.out.later ((Fr.refl _ _).drew)⟩, by simp [intOf]; omega⟩
              · have hi3 : i = k := by omega
                have HIK : Hid (i = k) := hi3
                have HXE : Hid ((decRun FB n K i).x = (runC n K LA k).x) := by
                  have := HBX.out
                  rw [← HIK.out]; exact this
                have HOE : Hid ((decRun FB n K i).x.length = n) := by show _ = _; rw [HBX.out]; exact oki3
                have HEO : Hid (Eok FB (decRun FB n K i)) := (decRun_ok HN.out.1 HN.out.2 HFL.out K i (by omega)).1
                clear hbx hbb oki1 oki2 oki3 hi3
                have HSA : Hid (∀ w', Fr (fun _ => False) wr w' → Calls Try.prog 16 #[.pointer (some ⟨bc, 0, none⟩)] w' fun e w'' => ∃ g, e = .returned (.slice (some ⟨g, 0, none⟩) n n) ∧ SeenAt w'' (.slice (some ⟨g, 0, none⟩) n n) (runC n K LA k).x ∧ Fr (fun _ => False) w' w'') := by
                  intro w' f
                  have hd := (HA.out.later f).done
                  obtain ⟨v1, v2, v3, v4, v5, hb⟩ := hd.blk
                  refine (states_at w' bc gc n _ HOK.out.1.pos HOK.out.1.lim (cell_of_seven hb).1 hd.xs).mono ?_
                  rintro e w'' ⟨g, rfl, ho, f2, _⟩
                  have hse := SeenAt.of_row ho (by have := HOK.out.1.lim; omega)
                  rw [HOK.out.2.2] at hse
                  exact ⟨g, by rw [HOK.out.2.2], hse, f2⟩
                have HSB : Hid (∀ w', Fr (fun _ => False) wr w' → Calls Try.prog 16 #[.pointer (some ⟨bd, 0, none⟩)] w' fun e w'' => ∃ g, e = .returned (.slice (some ⟨g, 0, none⟩) n n) ∧ SeenAt w'' (.slice (some ⟨g, 0, none⟩) n n) (runC n K LA k).x ∧ Fr (fun _ => False) w' w'') := by
                  intro w' f
                  have hd := (HA.out.later f).de
                  refine (states_at w' bd gd n _ HEO.out.pos HEO.out.lim (cell_of_seven hd.blk).1 hd.xs).mono ?_
                  rintro e w'' ⟨g, rfl, ho, f2, _⟩
                  have hse := SeenAt.of_row ho (by have := HEO.out.lim; omega)
                  rw [HOE.out, HXE.out] at hse
                  exact ⟨g, by rw [HOE.out], hse, f2⟩
                have HE2 : Hid (∀ (w' : World) (ga gb : Nat), SeenAt w' (.slice (some ⟨ga, 0, none⟩) n n) (runC n K LA k).x → SeenAt w' (.slice (some ⟨gb, 0, none⟩) n n) (runC n K LA k).x → Calls Try.prog 14 #[.slice (some ⟨ga, 0, none⟩) n n, .slice (some ⟨gb, 0, none⟩) n n] w' fun e w'' => e = .returned (.bool true) ∧ Fr (fun _ => False) w' w'') := by
                  intro w' ga gb s1 s2
                  refine (eq_any _ _ _ _ w' s1 s2).mono ?_
                  rintro e w'' ⟨rfl, q, rfl⟩
                  exact ⟨by rw [decide_eq_true rfl], (Fr.refl _ _).drewN q⟩
                have cz := HA.out.fr.cell c1 (fun hh => hh)
                have HKP : Hid (∀ w', Fr (fun _ => False) wr w' → w'.cell? ⟨B, 1, none⟩ = some (.slice ao nn cap)) := fun w' f => f.cell cz (fun hh => hh)
                have HFZ : Hid (Fr (fun _ => False) w wr) := HW1.out.trans HA.out.fr (fun _ _ hh => hh)
                clear HA
                go_wp2_with fail
                go_region_held3 (fun w' => w'.cell? ⟨B, 1, none⟩ = some (.slice ao nn cap)) (exact HKP.out _ (by repeat (first | with_reducible exact Fr.refl _ _ | with_reducible refine Fr.drew ?_ | with_reducible refine Fr.trans ?_ hf10 (fun _ _ hh => hh) | with_reducible refine Fr.trans ?_ hf9 (fun _ _ hh => hh) | with_reducible refine Fr.trans ?_ hf8 (fun _ _ hh => hh) | with_reducible refine Fr.trans ?_ hf7 (fun _ _ hh => hh)))) (first | (go_at_call 17; refine (wakes_any _).mono ?_; rintro e w10 ⟨rfl, hf10⟩) | (go_at_call 14; refine (HE2.out _ ga gb2 (sa.kept hf8 (fun _ _ hh => hh)) sb).mono ?_; rintro e w9 ⟨rfl, hf9⟩) | (go_at_call 16; (have _ := hf7); refine (HSB.out _ (by with_reducible exact (((Fr.refl (fun _ => False) wr).drew).trans hf7 (fun _ _ hh => hh)))).mono ?_; rintro e w8 ⟨gb2, rfl, sb, hf8⟩) | (go_at_call 16; refine (HSA.out _ (by with_reducible exact ((Fr.refl (fun _ => False) wr).drew))).mono ?_; rintro e w7 ⟨ga, rfl, sa, hf7⟩))
                go_wp2_with fail
                go_ret
                exact ⟨rfl, ((((HFZ.out.drew).trans hf7 (fun _ _ hh => hh)).trans hf8 (fun _ _ hh => hh)).trans hf9 (fun _ _ hh => hh)).trans hf10 (fun _ _ hh => hh)⟩
      · go_wp2_with fail
        have HOK : Hid (Ook (runC n K LA k) ∧ (runC n K LA k).made = k ∧ (runC n K LA k).x.length = n) := runC_ok HN.out.1 HN.out.2 K LA k (by omega)
        refine (flush_any wr bc gc n gb' cb' _ HBK.out.co HOK.out.1).mono ?_
        rintro e w4 ⟨q, nb, cpb, rfl, hse, hdo, hst, hq1, hq2⟩
        obtain ⟨r1, r2, r3, r4⟩ := HBK.out.flushed hst
        obtain ⟨FB, HFB⟩ : ∃ FB, Hid (FB = flushP (runC n K LA k).s) := ⟨_, rfl⟩
        rw [← HFB.out] at hse
        have hnb : nb = FB.length := by
          obtain ⟨ao', cp', e, _⟩ := hse
          simp only [Value.slice.injEq] at e
          exact e.2.1
        have HSE : Hid (SeenAt w4 (.slice (some ⟨q, 1, none⟩) nb cpb) FB) := hse
        have hnl : nb ≤ 140737488355328 := by
          obtain ⟨_, _, _, hl, _⟩ := hse
          omega
        have HNB : Hid (nb = FB.length) := hnb
        have HFL : Hid (∀ y ∈ FB, y < 256) := by
          intro y hy
          obtain ⟨i, hi, rfl⟩ := List.getElem_of_mem hy
          have R := reads_flush HOK.out.1.ok (runC_wb HN.out.1 HN.out.2 K LA k (by omega))
          rw [← HFB.out] at R
          have := R.lt (i + 1)
          rw [← R.bytes i] at this
          unfold byteD at this
          rw [List.getD_eq_getElem?_getD, List.getElem?_eq_getElem hi] at this
          exact this
        have HAF0 : Hid (DoAt w4 bc gc n (runC n K LA k).x ∧ w4.ownsRow 0 56 2 (.slice lo k lc) k (decCells K LA k) ∧ w4.ownsRow 0 22 1 (.slice so m sc) m (stCells G n m) ∧ (∀ i, i < m → w4.ownsRow 0 5 1 (.slice (some ⟨G i, 0, none⟩) n n) n (byteCells (runC n K LA (i + 1)).x)) ∧ Fr (fun _ => False) w1 w4) := ⟨hdo, r1, r2, r3, r4⟩
        clear hse hdo hst hq1 hq2 r1 r2 r3 r4 hnb cr HBK
        go_wp2_with fail
        refine (newDecoder_any w4 _ FB n HN.out.1 HN.out.2 HSE.out (Or.inr ⟨_, _, _, rfl⟩) HFL.out).mono ?_
        rintro e w5 ⟨bd, gd, vb, rfl, hd5, hf5, t1, t2, t3⟩
        have HAF : Hid (Af w1 w5 n K LA bc gc bd gd vb (.slice lo k lc) (.slice so m sc) G k m w4.heap.size (runC n K LA k).x FB (decRun FB n K 0)) := by
          obtain ⟨a1, a2, a3, a4, a5⟩ := HAF0.out
          exact ⟨a1.kept hf5 (fun hh => hh) (fun hh => hh), hd5, row_kept a2 hf5 (fun _ _ hh => hh), row_kept a3 hf5 (fun _ _ hh => hh), fun i hi => row_kept1 (a4 i hi) hf5 (fun hh => hh), a5.trans hf5 (fun _ _ hh => hh), ⟨a5.size, a1.lt, a1.xlt, fun g hg => (a2.lt g hg).2, fun g hg => (a3.lt g hg).2, fun i hi => ((a4 i hi).lt (G i) rfl).2⟩, ⟨t1, t2⟩⟩
        have HBC : Hid (∀ j, j < nb → w5.cell? ⟨q, 1 + j, none⟩ = some (.int .u8 (FB.getD j 0 : Nat))) := by
          intro j hj
          obtain ⟨ao', cp', e, _, hc⟩ := HSE.out.kept hf5 (fun _ _ hh => hh)
          obtain ⟨b', off', rfl, hcc⟩ := hc (by intro e; have := HNB.out; rw [e] at this; simp at this; omega)
          simp only [Value.slice.injEq, Option.some.injEq, Addr.mk.injEq] at e
          obtain ⟨⟨rfl, rfl, _⟩, _⟩ := e
          have := hcc j (by have := HNB.out; omega)
          rw [this, List.getD_eq_getElem?_getD]
        clear hd5 hf5 t1 t2 t3 HAF0 HSE
        go_wp2_with fail
        go_loopw [13] (fun i wr => ∃ (j : Nat), j ≤ nb ∧ i = .int .i64 j ∧ wr = w5) (fun i _ => nb - (intOf i).toNat)
        case atStart => exact ⟨0, Nat.zero_le _, rfl, rfl⟩
        case round =>
          obtain ⟨j, hj, rfl, hwr⟩ := hrel
          subst hwr
          by_cases hjn : j < nb
          · have cj := HBC.out j hjn
            obtain ⟨v, HV⟩ : ∃ v, Hid (v = FB.getD j 0) := ⟨_, rfl⟩
            rw [← HV.out] at cj
            have hv2 : v < 256 := by
              rw [HV.out, List.getD_eq_getElem?_getD, List.getElem?_eq_getElem (by have := HNB.out; omega)]
              exact HFL.out _ (List.getElem_mem _)
            by_cases hv : v = 255
            · subst hv
              have hbb := back_bytes HN.out.1 HN.out.2 K LA (m := k) (by omega) j (by rw [← HFB.out]; have := HNB.out; omega) (by rw [← HFB.out]; exact HV.out.symm)
              rw [← HFB.out] at hbb
              have hjn1 : j + 1 < nb := by have := HNB.out; omega
              have cj1 := HBC.out (j + 1) hjn1
              obtain ⟨v1, HV1⟩ : ∃ v1, Hid (v1 = FB.getD (j + 1) 0) := ⟨_, rfl⟩
              rw [← HV1.out] at cj1 hbb
              have hv1 : v1 ≤ 143 := hbb.2
              clear hbb
              have hq3 : ((j : Int) == (nb : Int) - 1) = false := by rw [beq_eq_false_iff_ne]; omega
              go_wp2_with fail
              refine ⟨⟨j + 1, by omega, congrArg (Value.int .i64) (by omega), trivial⟩, by simp [intOf]; omega⟩
            · have hq3 : ((v : Int) == 255) = false := by rw [beq_eq_false_iff_ne]; omega
              go_wp2_with fail
              refine ⟨⟨j + 1, by omega, congrArg (Value.int .i64) (by omega), trivial⟩, by simp [intOf]; omega⟩
          · have hjn2 : j = nb := by omega
            subst hjn2
            go_wp2_with fail
            go_loopw [14] (fun i wr => ∃ (j : Nat), j ≤ k ∧ i = .int .i64 j ∧ Af w1 wr n K LA bc gc bd gd vb (.slice lo k lc) (.slice so m sc) G k m w4.heap.size (runC n K LA k).x FB (decRun FB n K j)) (fun i _ => k - (intOf i).toNat)
            case atStart => exact ⟨0, Nat.zero_le _, rfl, HAF.out⟩
            case round =>
              obtain ⟨i, hik, rfl, haf⟩ := hrel
              have HA : Hid (Af w1 wr n K LA bc gc bd gd vb (.slice lo k lc) (.slice so m sc) G k m w4.heap.size (runC n K LA k).x FB (decRun FB n K i)) := haf
              clear haf
              have hBR := back_run HN.out.1 HN.out.2 K LA HL2.out (m := k) (by omega) i hik
              rw [← HFB.out] at hBR
              obtain ⟨_, hbx, hbb⟩ := hBR
              have HBX : Hid ((decRun FB n K i).x = (runC n K LA i).x) := hbx
              obtain ⟨oki1, oki2, oki3⟩ := runC_ok HN.out.1 HN.out.2 K LA i (by omega)
              by_cases hi2 : i < k
              · have HBB : Hid (getBit (decRun FB n K i) (K i) = LA i) := hbb hi2
                clear hbx hbb oki1 oki2 oki3
                obtain ⟨gl, cl2, e, _⟩ := row_form HA.out.lrow (by omega)
                simp only [Value.slice.injEq] at e
                obtain ⟨rfl, _, rfl⟩ := e
                have cC : wr.cell? ⟨gl, i * 2, none⟩ = some (.int .i64 (K i)) := by
                  rw [HA.out.lrow.cellAt (i * 2) (by omega)]; exact (decCells_get K LA k i hi2).1
                obtain ⟨kk, hkk⟩ : ∃ kk, kk = K i := ⟨_, rfl⟩
                obtain ⟨bK, _⟩ := HD.out.bd i (by omega)
                rw [← hkk] at cC bK
                have HKK : Hid (kk = K i) := hkk
                have HBK3 : Hid (-9223372036854775808 ≤ kk ∧ kk ≤ 9223372036854775807) := bK
                clear hkk bK
                obtain ⟨bt, HBT⟩ : ∃ bt, Hid (bt = LA i) := ⟨_, rfl⟩
                have hbt : bt < 2 := by rw [HBT.out]; exact HL2.out i
                have HGE : Hid (Calls Try.prog 15 #[.pointer (some ⟨bd, 0, none⟩), .int .i64 kk] wr fun e w' => e = .returned (.tuple #[.int .i64 (bt : Int), .int .i64 0]) ∧ Af w1 w' n K LA bc gc bd gd vb (.slice (some ⟨gl, 0, none⟩) k lc) (.slice so m sc) G k m w4.heap.size (runC n K LA k).x FB (decRun FB n K (i + 1))) := by
                  obtain ⟨eo, em⟩ := decRun_ok HN.out.1 HN.out.2 HFL.out K i (by omega)
                  refine (get_any wr bd gd n vb FB (decRun FB n K i) HA.out.de eo (by rw [em]; omega) kk HBK3.out).mono ?_
                  rw [HKK.out, HBB.out, ← HBT.out]
                  rintro e w' ⟨rfl, hd, hs⟩
                  exact ⟨rfl, HA.out.step hd hs⟩
                go_wp2_with fail
                refine HGE.out.mono ?_
                rintro e w6 ⟨rfl, ha6⟩
                have HA6 : Hid (Af w1 w6 n K LA bc gc bd gd vb (.slice (some ⟨gl, 0, none⟩) k lc) (.slice so m sc) G k m w4.heap.size (runC n K LA k).x FB (decRun FB n K (i + 1))) := ha6
                have cB : w6.cell? ⟨gl, i * 2 + 1, none⟩ = some (.int .i64 (bt : Int)) := by
                  rw [ha6.lrow.cellAt (i * 2 + 1) (by omega), HBT.out]; exact (decCells_get K LA k i hi2).2
                clear ha6 HGE HA
                have hbn : ((bt : Int) != (bt : Int)) = false := by simp
                by_cases h600 : i < 600
                · have hdec : decide ((i : Int) < 600) = true := decide_eq_true (by omega)
                  have him : i < m := by have := HM.out; omega
                  obtain ⟨gs, cs2, e, _⟩ := row_form HA6.out.srow (by omega)
                  simp only [Value.slice.injEq] at e
                  obtain ⟨rfl, _, rfl⟩ := e
                  have cS : w6.cell? ⟨gs, i, none⟩ = some (.slice (some ⟨G i, 0, none⟩) n n) := by
                    rw [HA6.out.srow.cellAt i (by omega)]; exact stCells_get G n m i him
                  have HXN : Hid ((decRun FB n K (i + 1)).x = (runC n K LA (i + 1)).x) := by
                    have := (back_run HN.out.1 HN.out.2 K LA HL2.out (m := k) (by omega) (i + 1) (by omega)).2.1
                    rw [← HFB.out] at this
                    exact this
                  have HSD : Hid (∀ w', Fr (fun _ => False) w6 w' → Calls Try.prog 16 #[.pointer (some ⟨bd, 0, none⟩)] w' fun e w'' => ∃ g, e = .returned (.slice (some ⟨g, 0, none⟩) n n) ∧ SeenAt w'' (.slice (some ⟨g, 0, none⟩) n n) (runC n K LA (i + 1)).x ∧ Fr (fun _ => False) w' w'') := by
                    intro w' f
                    have hd := (HA6.out.later f).de
                    obtain ⟨eo, em⟩ := decRun_ok HN.out.1 HN.out.2 HFL.out K (i + 1) (by omega)
                    obtain ⟨ok1, ok2, ok3⟩ := runC_ok HN.out.1 HN.out.2 K LA (i + 1) (by omega)
                    refine (states_at w' bd gd n _ eo.pos eo.lim (cell_of_seven hd.blk).1 hd.xs).mono ?_
                    rintro e w'' ⟨g, rfl, ho, f2, _⟩
                    have hse := SeenAt.of_row ho (by have := eo.lim; omega)
                    rw [HXN.out, ok3] at hse
                    exact ⟨g, by rw [HXN.out, ok3], hse, f2⟩
                  have HEQ : Hid (∀ (w' : World) (g : Nat), SeenAt w' (.slice (some ⟨g, 0, none⟩) n n) (runC n K LA (i + 1)).x → Fr (fun _ => False) w6 w' → Calls Try.prog 14 #[.slice (some ⟨g, 0, none⟩) n n, .slice (some ⟨G i, 0, none⟩) n n] w' fun e w'' => e = .returned (.bool true) ∧ Fr (fun _ => False) w' w'') := by
                    intro w' g s1 f
                    obtain ⟨ok1, ok2, ok3⟩ := runC_ok HN.out.1 HN.out.2 K LA (i + 1) (by omega)
                    have s2 : SeenAt w' (.slice (some ⟨G i, 0, none⟩) n n) (runC n K LA (i + 1)).x := by
                      have hr := (HA6.out.later f).seen i him
                      have hr2 : w'.ownsRow 0 5 1 (.slice (some ⟨G i, 0, none⟩) n n) (runC n K LA (i + 1)).x.length (byteCells (runC n K LA (i + 1)).x) := by rw [ok3]; exact hr
                      exact SeenAt.of_row hr2 (by have := ok1.lim; omega)
                    refine (eq_any _ _ _ _ w' s1 s2).mono ?_
                    rintro e w'' ⟨rfl, q, rfl⟩
                    exact ⟨by rw [decide_eq_true rfl], (Fr.refl _ _).drewN q⟩
                  have HKS : Hid (∀ w', Fr (fun _ => False) w6 w' → w'.cell? ⟨gl, i * 2 + 1, none⟩ = some (.int .i64 (bt : Int)) ∧ w'.cell? ⟨gs, i, none⟩ = some (.slice (some ⟨G i, 0, none⟩) n n)) := fun w' f => ⟨f.cell cB (fun hh => hh), f.cell cS (fun hh => hh)⟩
                  go_wp2_with fail
                  go_region_held3 (fun w' => w'.cell? ⟨gl, i * 2 + 1, none⟩ = some (.int .i64 (bt : Int)) ∧ w'.cell? ⟨gs, i, none⟩ = some (.slice (some ⟨G i, 0, none⟩) n n)) (exact HKS.out _ (by repeat (first | with_reducible exact Fr.refl _ _ | with_reducible refine Fr.drew ?_ | with_reducible refine Fr.trans ?_ hf8 (fun _ _ hh => hh) | with_reducible refine Fr.trans ?_ hf7 (fun _ _ hh => hh)))) (first | (go_at_call 14; refine (HEQ.out _ g7 sg7 (by with_reducible exact (((Fr.refl (fun _ => False) w6).drew).trans hf7 (fun _ _ hh => hh)))).mono ?_; rintro e w8 ⟨rfl, hf8⟩) | (go_at_call 16; refine (HSD.out _ (by with_reducible exact ((Fr.refl (fun _ => False) w6).drew))).mono ?_; rintro e w7 ⟨g7, rfl, sg7, hf7⟩))
                  go_wp2_with fail
                  refine ⟨⟨i + 1, by omega, congrArg (Value.int .i64) (by omega), HA6.out.later ((((Fr.refl _ _).drew).trans hf7 (fun _ _ hh => hh)).trans hf8 (fun _ _ hh => hh))⟩, by simp [intOf]; omega⟩
                · have hdec : decide ((i : Int) < 600) = false := decide_eq_false (by omega)
                  go_wp2_with fail
                  go_region
                  go_wp2_with fail
                  refine ⟨⟨i + 1, by omega, congrArg (Value.int .i64) (by omega), HA6.out.later ((Fr.refl _ _).drew)⟩, by simp [intOf]; omega⟩
              · have hi3 : i = k := by omega
                have HIK : Hid (i = k) := hi3
                have HXE : Hid ((decRun FB n K i).x = (runC n K LA k).x) := by
                  have := HBX.out
                  rw [← HIK.out]; exact this
                have HOE : Hid ((decRun FB n K i).x.length = n) := by show _ = _; rw [HBX.out]; exact oki3
                have HEO : Hid (Eok FB (decRun FB n K i)) := (decRun_ok HN.out.1 HN.out.2 HFL.out K i (by omega)).1
                clear hbx hbb oki1 oki2 oki3 hi3
                have HSA : Hid (∀ w', Fr (fun _ => False) wr w' → Calls Try.prog 16 #[.pointer (some ⟨bc, 0, none⟩)] w' fun e w'' => ∃ g, e = .returned (.slice (some ⟨g, 0, none⟩) n n) ∧ SeenAt w'' (.slice (some ⟨g, 0, none⟩) n n) (runC n K LA k).x ∧ Fr (fun _ => False) w' w'') := by
                  intro w' f
                  have hd := (HA.out.later f).done
                  obtain ⟨v1, v2, v3, v4, v5, hb⟩ := hd.blk
                  refine (states_at w' bc gc n _ HOK.out.1.pos HOK.out.1.lim (cell_of_seven hb).1 hd.xs).mono ?_
                  rintro e w'' ⟨g, rfl, ho, f2, _⟩
                  have hse := SeenAt.of_row ho (by have := HOK.out.1.lim; omega)
                  rw [HOK.out.2.2] at hse
                  exact ⟨g, by rw [HOK.out.2.2], hse, f2⟩
                have HSB : Hid (∀ w', Fr (fun _ => False) wr w' → Calls Try.prog 16 #[.pointer (some ⟨bd, 0, none⟩)] w' fun e w'' => ∃ g, e = .returned (.slice (some ⟨g, 0, none⟩) n n) ∧ SeenAt w'' (.slice (some ⟨g, 0, none⟩) n n) (runC n K LA k).x ∧ Fr (fun _ => False) w' w'') := by
                  intro w' f
                  have hd := (HA.out.later f).de
                  refine (states_at w' bd gd n _ HEO.out.pos HEO.out.lim (cell_of_seven hd.blk).1 hd.xs).mono ?_
                  rintro e w'' ⟨g, rfl, ho, f2, _⟩
                  have hse := SeenAt.of_row ho (by have := HEO.out.lim; omega)
                  rw [HOE.out, HXE.out] at hse
                  exact ⟨g, by rw [HOE.out], hse, f2⟩
                have HE2 : Hid (∀ (w' : World) (ga gb : Nat), SeenAt w' (.slice (some ⟨ga, 0, none⟩) n n) (runC n K LA k).x → SeenAt w' (.slice (some ⟨gb, 0, none⟩) n n) (runC n K LA k).x → Calls Try.prog 14 #[.slice (some ⟨ga, 0, none⟩) n n, .slice (some ⟨gb, 0, none⟩) n n] w' fun e w'' => e = .returned (.bool true) ∧ Fr (fun _ => False) w' w'') := by
                  intro w' ga gb s1 s2
                  refine (eq_any _ _ _ _ w' s1 s2).mono ?_
                  rintro e w'' ⟨rfl, q, rfl⟩
                  exact ⟨by rw [decide_eq_true rfl], (Fr.refl _ _).drewN q⟩
                have cz := HA.out.fr.cell c1 (fun hh => hh)
                have HKP : Hid (∀ w', Fr (fun _ => False) wr w' → w'.cell? ⟨B, 1, none⟩ = some (.slice ao nn cap)) := fun w' f => f.cell cz (fun hh => hh)
                have HFZ : Hid (Fr (fun _ => False) w wr) := HW1.out.trans HA.out.fr (fun _ _ hh => hh)
                clear HA
                go_wp2_with fail
                go_region_held3 (fun w' => w'.cell? ⟨B, 1, none⟩ = some (.slice ao nn cap)) (exact HKP.out _ (by repeat (first | with_reducible exact Fr.refl _ _ | with_reducible refine Fr.drew ?_ | with_reducible refine Fr.trans ?_ hf10 (fun _ _ hh => hh) | with_reducible refine Fr.trans ?_ hf9 (fun _ _ hh => hh) | with_reducible refine Fr.trans ?_ hf8 (fun _ _ hh => hh) | with_reducible refine Fr.trans ?_ hf7 (fun _ _ hh => hh)))) (first | (go_at_call 17; refine (wakes_any _).mono ?_; rintro e w10 ⟨rfl, hf10⟩) | (go_at_call 14; refine (HE2.out _ ga gb2 (sa.kept hf8 (fun _ _ hh => hh)) sb).mono ?_; rintro e w9 ⟨rfl, hf9⟩) | (go_at_call 16; (have _ := hf7); refine (HSB.out _ (by with_reducible exact (((Fr.refl (fun _ => False) wr).drew).trans hf7 (fun _ _ hh => hh)))).mono ?_; rintro e w8 ⟨gb2, rfl, sb, hf8⟩) | (go_at_call 16; refine (HSA.out _ (by with_reducible exact ((Fr.refl (fun _ => False) wr).drew))).mono ?_; rintro e w7 ⟨ga, rfl, sa, hf7⟩))
                go_wp2_with fail
                go_ret
                exact ⟨rfl, ((((HFZ.out.drew).trans hf7 (fun _ _ hh => hh)).trans hf8 (fun _ _ hh => hh)).trans hf9 (fun _ _ hh => hh)).trans hf10 (fun _ _ hh => hh)⟩


end Go.Proofs.Ytdbblgceeclpaaa
