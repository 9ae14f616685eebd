/- 'Flush', and the spare behind its bytes. -/
import Derived.Test.YtdbblgceeclpaaaOvO
import Derived.Test.YtdbblgceeclpaaaFlush
namespace Go.Proofs.Ytdbblgceeclpaaa
open Go.RowKit

theorem free_kept {w w' : World} {g m c : Nat} {xs : List Value} {S : Nat → Prop} (h : w.ownsRow 0 5 1 (.slice (some ⟨g, 0, none⟩) m c) m xs) (f : Fr S w w') (hs : ¬ S g) : Free w' g 1 (c - 1) := by
  rcases h.2 with ⟨e, _⟩ | ⟨g', c', cur, e, _, hg, hc, _, hz, _⟩
  · cases e
  · simp only [Value.slice.injEq, Option.some.injEq, Addr.mk.injEq, true_and, and_true] at e
    obtain ⟨rfl, rfl⟩ := e
    have h1 : w'.heap[g]? = some (.cells cur 5 (0, 0)) := (f.block g (lt_of_block hg) hs).trans hg
    intro j hj
    have hz' : cur.size = c * 1 := hz
    refine ⟨⟨cur[1 + j]'(by omega), ?_⟩, ?_⟩
    · unfold World.cell?
      rw [h1]
      simp [Array.getElem?_eq_getElem (show 1 + j < cur.size by omega)]
    · simp [World.frozen?, h1]

set_option maxRecDepth 100000 in
set_option maxHeartbeats 2000000 in
theorem flush_free (w : World) (bc gc cc gb cb : Nat) (o : Co) (h : CoAt w bc gc cc gb cb o) (hok : Ook o) :
    Calls Try.prog 12 #[.pointer (some ⟨bc, 0, none⟩)] w fun e w' => ∃ gb' n cap, e = .returned (.tuple #[.slice (some ⟨gb', 1, none⟩) n cap, .int .i64 0]) ∧ SeenAt w' (.slice (some ⟨gb', 1, none⟩) n cap) (flushP o.s) ∧ DoAt w' bc gc cc o.x ∧ CStep bc gc gb gb' w w' ∧ gb' ≠ bc ∧ gb' ≠ gc ∧ Free w' gb' 1 cap ∧ n ≤ cap ∧ gb' < w'.heap.size := by
  obtain ⟨e0, e1, e2, e3, e4, e5, e6, ef⟩ := cell_of_seven h.blk
  have HO : Hid (CoAt w bc gc cc gb cb o) := h
  have HK : Hid (Ook o) := hok
  clear h hok e0 e1 e2 e3 e4 e5
  go_enter Try.func12, Try.ntmps12
  go_wp2_with (first | (go_at_call 34; refine (setBits_any _ bc gc cc gb cb o HO.out HK.out.ok).mono ?_; rintro e w1 ⟨rfl, hc1, hs1⟩; have HC1 : Hid (CoAt w1 bc gc cc gb cb { o with s := { o.s with c := flushC o.s.c o.s.a } }) := hc1; have HS1 : Hid (CStep bc gc gb gb w w1) := hs1; clear hc1 hs1))
  have HF0 : Hid (Flu w w1 bc gc cc gb o { o.s with c := flushC o.s.c o.s.a } gb cb) := by
    refine ⟨HC1.out, HS1.out, ?_, HK.out.ok.cw.tpos, HK.out.ok.cw.tlt, HK.out.ok.cw.llt, HK.out.ok.cw.blt, ?_⟩
    · refine Nat.lt_of_lt_of_le ?_ HK.out.ok.cw.room
      exact Nat.mul_lt_mul_of_pos_right (flushC_lt HK.out.ok.half) (Nat.two_pow_pos _)
    · have h1 := HK.out.len
      have h2 := HK.out.made
      show o.s.b.length ≤ _
      omega
  go_loopw [11] (fun i wr => ∃ (k gb' cb' : Nat), k ≤ 2 ∧ i = .int .i64 k ∧ Flu w wr bc gc cc gb o (fluS o.s k) gb' cb' ∧ (fluS o.s k).b.length ≤ 900000002 + k) (fun i _ => 2 - (intOf i).toNat)
  case atStart => exact ⟨0, gb, cb, by decide, rfl, HF0.out, by have h1 := HK.out.len; have h2 := HK.out.made; show o.s.b.length ≤ _; omega⟩
  case round =>
    obtain ⟨k, gb', cb', hk, rfl, hfl, hle⟩ := hrel
    obtain ⟨c0, c1, c2, c3, c4, c5, c6, cf⟩ := cell_of_seven hfl.at_.blk
    have HFL : Hid (Flu w wr bc gc cc gb o (fluS o.s k) gb' cb') := hfl
    have HLE : Hid ((fluS o.s k).b.length ≤ 900000002 + k) := hle
    have hbl := hfl.at_.lt
    by_cases hk2 : k < 2
    · have htl := hfl.tlt
      have hlt := hfl.lt
      have hlt := hfl.lt
      clear hfl hle
      obtain ⟨s, HS⟩ : ∃ s, Hid (s = fluS o.s k) := ⟨_, rfl⟩
      rw [← HS.out] at c2 c3 c4 c5 htl hlt
      obtain ⟨c, hc⟩ : ∃ c, c = s.c := ⟨_, rfl⟩
      obtain ⟨t, ht⟩ : ∃ t, t = s.t := ⟨_, rfl⟩
      rw [← hc] at c3 hlt
      rw [← ht] at c4 htl hlt
      have HC : Hid (c = s.c ∧ t = s.t) := ⟨hc, ht⟩
      clear hc ht
      obtain ⟨d, HD⟩ : ∃ d, Hid (d = c * 2 ^ t) := ⟨_, rfl⟩
      have hsh : (c : Int) * 2 ^ t % 4294967296 = (d : Int) := by
        rw [HD.out]
        have e : (c : Int) * 2 ^ t = ((c * 2 ^ t : Nat) : Int) := by push_cast; rfl
        rw [e]; omega
      have HDL : Hid (d < 268435456) := by show d < _; rw [HD.out]; exact hlt
      have HCO : Hid (CoAt (wr.setCell ⟨bc, 3, none⟩ (.int .u32 (d : Int))).drew bc gc cc gb' cb' { o with s := { fluS o.s k with c := d } }) := (HFL.out.at_.setC d).drewN 1
      have HST : Hid (CStep bc gc gb' gb' wr (wr.setCell ⟨bc, 3, none⟩ (.int .u32 (d : Int))).drew) := CStep.of_fr (Fr.drew (Fr.setCell (Fr.refl _ _) (fun _ => Or.inl rfl) _))
      clear hlt
      go_wp2_with fail
      go_region
      go_wp2_with (first | (go_at_call 35; refine (out_any _ bc gc cc gb' cb' _ HCO.out HDL.out HFL.out.llt (by have := HLE.out; show (fluS o.s k).b.length ≤ _; omega)).mono ?_; rintro e w2 ⟨rfl, gb2, cb2, hc2, hs2⟩; have HC2 : Hid (CoAt w2 bc gc cc gb2 cb2 { o with s := outP { fluS o.s k with c := d } }) := hc2; have HS2 : Hid (CStep bc gc gb' gb2 (wr.setCell ⟨bc, 3, none⟩ (.int .u32 (d : Int))).drew w2) := hs2; clear hc2 hs2))
      have ed : d = (fluS o.s k).c * 2 ^ (fluS o.s k).t := by rw [HD.out, HC.out.1, HC.out.2, HS.out]
      have hc3 := HC2.out
      rw [ed] at hc3
      refine ⟨⟨k + 1, gb2, cb2, by omega, congrArg (Value.int .i64) (by omega), HFL.out.next (by have := HLE.out; omega) hc3 (HST.out.trans HS2.out), ?_⟩, ?_⟩
      · have := HLE.out
        simp [fluS, outP]; omega
      · simp [intOf]; omega
    · have hk2 : k = 2 := by omega
      subst hk2
      have hl := hfl.at_.last
      have hll := hfl.llt
      obtain ⟨_, hcap, hmx⟩ := row_cap hfl.at_.bs
      have HFA : Hid (CoAt wr bc gc cc gb' cb' { o with s := flush2 o.s }) := hfl.at_
      have HSZ : Hid (CStep bc gc gb gb' w wr) := hfl.step
      clear hfl HFL HLE hle
      rw [fluS_two] at c2 c3 c4 c5 hl hll hcap
      simp only [] at hl hcap c2 c3 c4 c5
      have hb2 : 2 ≤ (flush2 o.s).b.length := by simp [flush2, flush1, outP]
      have HP : Hid (flushP o.s = if (flush2 o.s).l = 255 then (flush2 o.s).b.drop 1 else ((flush2 o.s).b ++ [(flush2 o.s).l]).drop 1) := rfl
      have HB1 : Hid (bc < wr.heap.size ∧ gb' ≠ bc ∧ gb' ≠ gc ∧ gc ≠ bc) := ⟨hbl, HFA.out.neb, HFA.out.nexb, HFA.out.nex⟩
      have hne := HFA.out.neb
      have hln : (flush2 o.s).b.length ≤ 1000000000 := by
        have h1 := HK.out.len
        have h2 := HK.out.made
        simp [flush2, flush1, outP]; omega
      generalize flush2 o.s = s at *
      obtain ⟨m, hm⟩ : ∃ m, s.b.length = m + 1 := ⟨s.b.length - 1, by omega⟩
      obtain ⟨l, hl3⟩ : ∃ l, l = s.l := ⟨_, rfl⟩
      rw [← hl3, hm, Nat.add_comm] at hl
      rw [hm] at c5 hcap hb2 hln
      rw [← hl3] at hll
      have HE : Hid (s.b.length = m + 1 ∧ l = s.l) := ⟨hm, hl3⟩
      clear hm hl3
      unfold maxLen at hmx
      have HD : Hid (∀ w', w' = (wr.setCell ⟨bc, 5, none⟩ (.slice none 0 0)).setCell ⟨bc, 6, none⟩ (.bool true) → DoAt w' bc gc cc o.x ∧ CStep bc gc gb gb' w w' ∧ (∀ j v, wr.cell? ⟨gb', j, none⟩ = some v → w'.cell? ⟨gb', j, none⟩ = some v) ∧ Free w' gb' 1 (cb' - 1) ∧ gb' < w'.heap.size) := by
        rintro w' rfl
        have f : Fr (fun k => k = bc) wr ((wr.setCell ⟨bc, 5, none⟩ (.slice none 0 0)).setCell ⟨bc, 6, none⟩ (.bool true)) := Fr.setCell (p := ⟨bc, 6, none⟩) (Fr.set1 _ _ _ _) (fun _ => rfl) _
        refine ⟨⟨⟨.int .i64 (o.made : Nat), .int .u32 (s.a : Nat), .int .u32 (s.c : Nat), .int .i64 (s.t : Nat), .slice none 0 0, ?_⟩, row_kept1 HFA.out.xs f HB1.out.2.2.2⟩, HSZ.out.trans (CStep.of_fr (f.mono (fun _ _ e => Or.inl e))), fun j v hv => f.cell hv hne, free_kept HFA.out.bs f hne, Nat.lt_of_lt_of_le HFA.out.blt f.size⟩
        rw [seven_set (seven_set HFA.out.blk)]; rfl
      have HBS : Hid (∀ j, j < m + 2 → wr.cell? ⟨gb', j, none⟩ = some (.int .u8 ((s.b ++ [s.l])[j]?.getD 0 : Nat))) := by
        intro j hj
        have h1 := HE.out.1
        rw [HFA.out.bs.cellAt _ (by show j < (s.b.length + 1) * 1; omega), byteCells_get]
        show Option.map _ (s.b ++ [s.l])[j]? = _
        rw [List.getElem?_eq_getElem (by simp; omega)]; rfl
      by_cases hl5 : l = 255
      · subst hl5
        go_wp2_with fail
        go_ret2
        obtain ⟨d1, d2, d3, d4, d5⟩ := HD.out _ rfl
        refine ⟨gb', _, _, rfl, ?_, d1, d2, HB1.out.2.1, HB1.out.2.2.1, d4, by omega, d5⟩
        rw [HP.out, if_pos HE.out.2.symm]
        have h1 := HE.out.1
        refine ⟨_, _, congrArg (fun z => Value.slice _ z _) (by simp; omega), by simp; omega, fun _ => ⟨gb', 1, rfl, fun j hj => ?_⟩⟩
        have hj2 : j < m := by simp at hj; omega
        refine d3 _ _ ?_
        rw [HBS.out (1 + j) (by omega), List.getElem?_append_left (by omega), List.getElem?_drop]
      · have hl5' : ((l : Int) == 255) = false := by rw [beq_eq_false_iff_ne]; omega
        go_wp2_with fail
        go_ret2
        obtain ⟨d1, d2, d3, d4, d5⟩ := HD.out _ rfl
        refine ⟨gb', _, _, rfl, ?_, d1, d2, HB1.out.2.1, HB1.out.2.2.1, d4, by omega, d5⟩
        rw [HP.out, if_neg (by rw [← HE.out.2]; exact hl5)]
        have h1 := HE.out.1
        refine ⟨_, _, congrArg (fun z => Value.slice _ z _) (by simp; omega), by simp; omega, fun _ => ⟨gb', 1, rfl, fun j hj => ?_⟩⟩
        have hj2 : j < m + 1 := by simp at hj; omega
        refine d3 _ _ ?_
        rw [HBS.out (1 + j) (by omega), List.getElem?_drop]


end Go.Proofs.Ytdbblgceeclpaaa
