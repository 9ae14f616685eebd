/- 'setBits', 'Flush'. -/
import Derived.Test.YtkggdnkmaldmlabKNew
namespace Go.Proofs.Ytkggdnkmaldmlab
open Go.RowKit

set_option maxRecDepth 100000 in
set_option maxHeartbeats 1000000 in
theorem setBits_any (w : World) (bc gc cc gb cb : Nat) (o : Co) (h : CoAt w bc gc cc gb cb o) (hok : Cok o.s) :
    Calls Try.prog 32 #[.pointer (some ⟨bc, 0, none⟩)] w fun e w' => e = .returned (.tuple #[]) ∧ CoAt w' bc gc cc gb cb { o with s := { o.s with c := flushC o.s.c o.s.a } } ∧ CStep bc gc gb gb w w' := by
  obtain ⟨e0, e1, e2, e3, e4, e5, e6, ef⟩ := cell_of_seven h.blk
  have HO : Hid (CoAt w bc gc cc gb cb o) := h
  have hh := hok.half
  have ha := hok.cw.alt
  have hct := hok.cw.c_lt
  have hor := or_low_le o.s.c
  have hbl := h.lt
  clear h hok
  obtain ⟨⟨a, c, t, b, l⟩, x, made⟩ := o
  simp only [] at *
  obtain ⟨d, HD⟩ : ∃ d, Hid (d = c ||| 65535) := ⟨_, rfl⟩
  have hdo : bits BinOp.or IntKind.u32 (c : Int) 65535 = (d : Int) := by rw [HD.out]; exact u32_or_nat c 65535 (by omega) (by decide)
  rw [← HD.out] at hor
  have hd2 : 32768 ≤ d := by rw [HD.out]; exact Nat.le_trans (by decide) (Nat.right_le_or)
  by_cases hge : c + a ≤ d
  · have hfc : flushC c a = d - 32768 := by rw [flushC, ← HD.out, if_pos hge]
    have hsb : (d : Int) - 32768 = ((d - 32768 : Nat) : Int) := by omega
    go_enter Try.func32, Try.ntmps32
    go_wp2_with fail
    go_region
    go_wp2_with fail
    go_end0
    rw [hfc]
    exact ⟨rfl, ((HO.out.setC d).setC (d - 32768)).drewN 1, CStep.of_fr (Fr.drew (Fr.setCell (Fr.setCell (Fr.refl _ _) (fun _ => Or.inl rfl) _) (fun _ => Or.inl rfl) _))⟩
  · have hfc : flushC c a = d := by rw [flushC, ← HD.out, if_neg hge]
    go_enter Try.func32, Try.ntmps32
    go_wp2_with fail
    go_region
    go_wp2_with fail
    go_end0
    rw [hfc]
    exact ⟨rfl, (HO.out.setC d).drewN 1, CStep.of_fr (Fr.drew (Fr.setCell (Fr.refl _ _) (fun _ => Or.inl rfl) _))⟩

/-- Bytes that can be read. -/
def SeenAt (w : World) (v : Value) (l : List Nat) : Prop :=
  ∃ ao cap, v = .slice ao l.length cap ∧ l.length ≤ 140737488355328 ∧ (l ≠ [] → ∃ b off, ao = some ⟨b, off, none⟩ ∧ ∀ j, j < l.length → w.cell? ⟨b, off + j, none⟩ = some (.int .u8 (l[j]?.getD 0 : Nat)))

/-- A coder that was flushed. -/
structure DoAt (w : World) (bc gc cc : Nat) (x : List Nat) : Prop where
  blk : ∃ v1 v2 v3 v4 v5, w.heap[bc]? = some (.cells #[.slice (some ⟨gc, 0, none⟩) x.length cc, v1, v2, v3, v4, v5, .bool true] 55 (0, 0))
  xs : w.ownsRow 0 121 1 (.slice (some ⟨gc, 0, none⟩) x.length cc) x.length (byteCells x)

theorem DoAt.lt {w : World} {bc gc cc : Nat} {x : List Nat} (h : DoAt w bc gc cc x) : bc < w.heap.size := by
  obtain ⟨_, _, _, _, _, h⟩ := h.blk
  exact lt_of_block h
theorem DoAt.xlt {w : World} {bc gc cc : Nat} {x : List Nat} (h : DoAt w bc gc cc x) : gc < w.heap.size := (h.xs.lt gc rfl).2
theorem DoAt.kept {w w' : World} {bc gc cc : Nat} {x : List Nat} {S : Nat → Prop} (h : DoAt w bc gc cc x) (f : Fr S w w') (h1 : ¬ S bc) (h2 : ¬ S gc) : DoAt w' bc gc cc x := by
  refine ⟨?_, row_kept1 h.xs f h2⟩
  have hl := h.lt
  obtain ⟨v1, v2, v3, v4, v5, h⟩ := h.blk
  exact ⟨v1, v2, v3, v4, v5, by rw [f.block bc hl h1]; exact h⟩

/-- Between the two bytes of 'Flush'. -/
structure Flu (w wr : World) (bc gc cc gb : Nat) (o : Co) (s : Cs) (gb' cb' : Nat) : Prop where
  at_ : CoAt wr bc gc cc gb' cb' { o with s := s }
  step : CStep bc gc gb gb' w wr
  lt : s.c * 2 ^ s.t < 268435456
  tpos : 1 ≤ s.t
  tlt : s.t ≤ 12
  llt : s.l < 256
  blt : ∀ y ∈ s.b, y < 256
  len : s.b.length ≤ 900000005

theorem Flu.next {w wr w2 : World} {bc gc cc gb gb' cb' gb2 cb2 : Nat} {o : Co} {s : Cs} (h : Flu w wr bc gc cc gb o s gb' cb') (hl : s.b.length ≤ 900000003) (hco : CoAt w2 bc gc cc gb2 cb2 { o with s := outP { s with c := s.c * 2 ^ s.t } }) (hst : CStep bc gc gb' gb2 wr w2) :
    Flu w w2 bc gc cc gb o (outP { s with c := s.c * 2 ^ s.t }) gb2 cb2 := by
  have hw : Cw (outP { s with a := 1, c := s.c * 2 ^ s.t }) := outP_cw (Nat.le_refl 1) (by show 1 < 65536; decide) h.llt h.blt
  refine ⟨hco, h.step.trans hst, ?_, hw.tpos, hw.tlt, hw.llt, hw.blt, ?_⟩
  · have h1 := hw.room
    have h2 : (outP { s with a := 1, c := s.c * 2 ^ s.t }).c = (outP { s with c := s.c * 2 ^ s.t }).c := rfl
    have h3 : (outP { s with a := 1, c := s.c * 2 ^ s.t }).t = (outP { s with c := s.c * 2 ^ s.t }).t := rfl
    rw [h2, h3] at h1
    refine Nat.lt_of_lt_of_le ?_ h1
    exact Nat.mul_lt_mul_of_pos_right (by show _ < _ + 1; omega) (Nat.two_pow_pos _)
  · simp [outP]; omega

theorem row_cap {w : World} {base e size n cap g m : Nat} {xs : List Value} (h : w.ownsRow base e size (.slice (some ⟨g, 0, none⟩) m cap) n xs) : m = n ∧ n ≤ cap ∧ cap ≤ maxLen := by
  rcases h.2 with ⟨e, _⟩ | ⟨g', cap', cur, e, _, hg, hc, hm, _⟩
  · cases e
  · simp only [Value.slice.injEq] at e
    obtain ⟨_, rfl, rfl⟩ := e
    exact ⟨rfl, hc, hm⟩

def fluS (s : Cs) : Nat → Cs
  | 0 => { s with c := flushC s.c s.a }
  | k + 1 => outP { fluS s k with c := (fluS s k).c * 2 ^ (fluS s k).t }
theorem fluS_two (s : Cs) : fluS s 2 = flush2 s := rfl

set_option maxRecDepth 100000 in
set_option maxHeartbeats 2000000 in
theorem flush_any (w : World) (bc gc cc gb cb : Nat) (o : Co) (h : CoAt w bc gc cc gb cb o) (hok : Ook o) :
    Calls Try.prog 11 #[.pointer (some ⟨bc, 0, none⟩)] w fun e w' => ∃ gb' n cap, e = .returned (.tuple #[.slice (some ⟨gb', 1, none⟩) n cap, .int .i64 0]) ∧ SeenAt w' (.slice (some ⟨gb', 1, none⟩) n cap) (flushP o.s) ∧ DoAt w' bc gc cc o.x ∧ CStep bc gc gb gb' w w' ∧ gb' ≠ bc ∧ gb' ≠ gc := by
  obtain ⟨e0, e1, e2, e3, e4, e5, e6, ef⟩ := cell_of_seven h.blk
  have HO : Hid (CoAt w bc gc cc gb cb o) := h
  have HK : Hid (Ook o) := hok
  clear h hok e0 e1 e2 e3 e4 e5
  go_enter Try.func11, Try.ntmps11
  go_wp2_with (first | (go_at_call 32; refine (setBits_any _ bc gc cc gb cb o HO.out HK.out.ok).mono ?_; rintro e w1 ⟨rfl, hc1, hs1⟩; have HC1 : Hid (CoAt w1 bc gc cc gb cb { o with s := { o.s with c := flushC o.s.c o.s.a } }) := hc1; have HS1 : Hid (CStep bc gc gb gb w w1) := hs1; clear hc1 hs1))
  have HF0 : Hid (Flu w w1 bc gc cc gb o { o.s with c := flushC o.s.c o.s.a } gb cb) := by
    refine ⟨HC1.out, HS1.out, ?_, HK.out.ok.cw.tpos, HK.out.ok.cw.tlt, HK.out.ok.cw.llt, HK.out.ok.cw.blt, ?_⟩
    · refine Nat.lt_of_lt_of_le ?_ HK.out.ok.cw.room
      exact Nat.mul_lt_mul_of_pos_right (flushC_lt HK.out.ok.half) (Nat.two_pow_pos _)
    · have h1 := HK.out.len
      have h2 := HK.out.made
      show o.s.b.length ≤ _
      omega
  go_loopw [11] (fun i wr => ∃ (k gb' cb' : Nat), k ≤ 2 ∧ i = .int .i64 k ∧ Flu w wr bc gc cc gb o (fluS o.s k) gb' cb' ∧ (fluS o.s k).b.length ≤ 900000002 + k) (fun i _ => 2 - (intOf i).toNat)
  case atStart => exact ⟨0, gb, cb, by decide, rfl, HF0.out, by have h1 := HK.out.len; have h2 := HK.out.made; show o.s.b.length ≤ _; omega⟩
  case round =>
    obtain ⟨k, gb', cb', hk, rfl, hfl, hle⟩ := hrel
    obtain ⟨c0, c1, c2, c3, c4, c5, c6, cf⟩ := cell_of_seven hfl.at_.blk
    have HFL : Hid (Flu w wr bc gc cc gb o (fluS o.s k) gb' cb') := hfl
    have HLE : Hid ((fluS o.s k).b.length ≤ 900000002 + k) := hle
    have hbl := hfl.at_.lt
    by_cases hk2 : k < 2
    · have htl := hfl.tlt
      have hlt := hfl.lt
      have hlt := hfl.lt
      clear hfl hle
      obtain ⟨s, HS⟩ : ∃ s, Hid (s = fluS o.s k) := ⟨_, rfl⟩
      rw [← HS.out] at c2 c3 c4 c5 htl hlt
      obtain ⟨c, hc⟩ : ∃ c, c = s.c := ⟨_, rfl⟩
      obtain ⟨t, ht⟩ : ∃ t, t = s.t := ⟨_, rfl⟩
      rw [← hc] at c3 hlt
      rw [← ht] at c4 htl hlt
      have HC : Hid (c = s.c ∧ t = s.t) := ⟨hc, ht⟩
      clear hc ht
      obtain ⟨d, HD⟩ : ∃ d, Hid (d = c * 2 ^ t) := ⟨_, rfl⟩
      have hsh : (c : Int) * 2 ^ t % 4294967296 = (d : Int) := by
        rw [HD.out]
        have e : (c : Int) * 2 ^ t = ((c * 2 ^ t : Nat) : Int) := by push_cast; rfl
        rw [e]; omega
      have HDL : Hid (d < 268435456) := by show d < _; rw [HD.out]; exact hlt
      have HCO : Hid (CoAt (wr.setCell ⟨bc, 3, none⟩ (.int .u32 (d : Int))).drew bc gc cc gb' cb' { o with s := { fluS o.s k with c := d } }) := (HFL.out.at_.setC d).drewN 1
      have HST : Hid (CStep bc gc gb' gb' wr (wr.setCell ⟨bc, 3, none⟩ (.int .u32 (d : Int))).drew) := CStep.of_fr (Fr.drew (Fr.setCell (Fr.refl _ _) (fun _ => Or.inl rfl) _))
      clear hlt
      go_wp2_with fail
      go_region
      go_wp2_with (first | (go_at_call 33; refine (out_any _ bc gc cc gb' cb' _ HCO.out HDL.out HFL.out.llt (by have := HLE.out; show (fluS o.s k).b.length ≤ _; omega)).mono ?_; rintro e w2 ⟨rfl, gb2, cb2, hc2, hs2⟩; have HC2 : Hid (CoAt w2 bc gc cc gb2 cb2 { o with s := outP { fluS o.s k with c := d } }) := hc2; have HS2 : Hid (CStep bc gc gb' gb2 (wr.setCell ⟨bc, 3, none⟩ (.int .u32 (d : Int))).drew w2) := hs2; clear hc2 hs2))
      have ed : d = (fluS o.s k).c * 2 ^ (fluS o.s k).t := by rw [HD.out, HC.out.1, HC.out.2, HS.out]
      have hc3 := HC2.out
      rw [ed] at hc3
      refine ⟨⟨k + 1, gb2, cb2, by omega, congrArg (Value.int .i64) (by omega), HFL.out.next (by have := HLE.out; omega) hc3 (HST.out.trans HS2.out), ?_⟩, ?_⟩
      · have := HLE.out
        simp [fluS, outP]; omega
      · simp [intOf]; omega
    · have hk2 : k = 2 := by omega
      subst hk2
      have hl := hfl.at_.last
      have hll := hfl.llt
      obtain ⟨_, hcap, hmx⟩ := row_cap hfl.at_.bs
      have HFA : Hid (CoAt wr bc gc cc gb' cb' { o with s := flush2 o.s }) := hfl.at_
      have HSZ : Hid (CStep bc gc gb gb' w wr) := hfl.step
      clear hfl HFL HLE hle
      rw [fluS_two] at c2 c3 c4 c5 hl hll hcap
      simp only [] at hl hcap c2 c3 c4 c5
      have hb2 : 2 ≤ (flush2 o.s).b.length := by simp [flush2, flush1, outP]
      have HP : Hid (flushP o.s = if (flush2 o.s).l = 255 then (flush2 o.s).b.drop 1 else ((flush2 o.s).b ++ [(flush2 o.s).l]).drop 1) := rfl
      have HB1 : Hid (bc < wr.heap.size ∧ gb' ≠ bc ∧ gb' ≠ gc ∧ gc ≠ bc) := ⟨hbl, HFA.out.neb, HFA.out.nexb, HFA.out.nex⟩
      have hne := HFA.out.neb
      have hln : (flush2 o.s).b.length ≤ 1000000000 := by
        have h1 := HK.out.len
        have h2 := HK.out.made
        simp [flush2, flush1, outP]; omega
      generalize flush2 o.s = s at *
      obtain ⟨m, hm⟩ : ∃ m, s.b.length = m + 1 := ⟨s.b.length - 1, by omega⟩
      obtain ⟨l, hl3⟩ : ∃ l, l = s.l := ⟨_, rfl⟩
      rw [← hl3, hm, Nat.add_comm] at hl
      rw [hm] at c5 hcap hb2 hln
      rw [← hl3] at hll
      have HE : Hid (s.b.length = m + 1 ∧ l = s.l) := ⟨hm, hl3⟩
      clear hm hl3
      unfold maxLen at hmx
      have HD : Hid (∀ w', w' = (wr.setCell ⟨bc, 5, none⟩ (.slice none 0 0)).setCell ⟨bc, 6, none⟩ (.bool true) → DoAt w' bc gc cc o.x ∧ CStep bc gc gb gb' w w' ∧ ∀ j v, wr.cell? ⟨gb', j, none⟩ = some v → w'.cell? ⟨gb', j, none⟩ = some v) := by
        rintro w' rfl
        have f : Fr (fun k => k = bc) wr ((wr.setCell ⟨bc, 5, none⟩ (.slice none 0 0)).setCell ⟨bc, 6, none⟩ (.bool true)) := Fr.setCell (p := ⟨bc, 6, none⟩) (Fr.set1 _ _ _ _) (fun _ => rfl) _
        refine ⟨⟨⟨.int .i64 (o.made : Nat), .int .u32 (s.a : Nat), .int .u32 (s.c : Nat), .int .i64 (s.t : Nat), .slice none 0 0, ?_⟩, row_kept1 HFA.out.xs f HB1.out.2.2.2⟩, HSZ.out.trans (CStep.of_fr (f.mono (fun _ _ e => Or.inl e))), fun j v hv => f.cell hv hne⟩
        rw [seven_set (seven_set HFA.out.blk)]; rfl
      have HBS : Hid (∀ j, j < m + 2 → wr.cell? ⟨gb', j, none⟩ = some (.int .u8 ((s.b ++ [s.l])[j]?.getD 0 : Nat))) := by
        intro j hj
        have h1 := HE.out.1
        rw [HFA.out.bs.cellAt _ (by show j < (s.b.length + 1) * 1; omega), byteCells_get]
        show Option.map _ (s.b ++ [s.l])[j]? = _
        rw [List.getElem?_eq_getElem (by simp; omega)]; rfl
      by_cases hl5 : l = 255
      · subst hl5
        go_wp2_with fail
        go_ret2
        obtain ⟨d1, d2, d3⟩ := HD.out _ rfl
        refine ⟨gb', _, _, rfl, ?_, d1, d2, HB1.out.2.1, HB1.out.2.2.1⟩
        rw [HP.out, if_pos HE.out.2.symm]
        have h1 := HE.out.1
        refine ⟨_, _, congrArg (fun z => Value.slice _ z _) (by simp; omega), by simp; omega, fun _ => ⟨gb', 1, rfl, fun j hj => ?_⟩⟩
        have hj2 : j < m := by simp at hj; omega
        refine d3 _ _ ?_
        rw [HBS.out (1 + j) (by omega), List.getElem?_append_left (by omega), List.getElem?_drop]
      · have hl5' : ((l : Int) == 255) = false := by rw [beq_eq_false_iff_ne]; omega
        go_wp2_with fail
        go_ret2
        obtain ⟨d1, d2, d3⟩ := HD.out _ rfl
        refine ⟨gb', _, _, rfl, ?_, d1, d2, HB1.out.2.1, HB1.out.2.2.1⟩
        rw [HP.out, if_neg (by rw [← HE.out.2]; exact hl5)]
        have h1 := HE.out.1
        refine ⟨_, _, congrArg (fun z => Value.slice _ z _) (by simp; omega), by simp; omega, fun _ => ⟨gb', 1, rfl, fun j hj => ?_⟩⟩
        have hj2 : j < m + 1 := by simp at hj; omega
        refine d3 _ _ ?_
        rw [HBS.out (1 + j) (by omega), List.getElem?_drop]

end Go.Proofs.Ytkggdnkmaldmlab
