/- Segments' headers: the document's own reader: a fault that stays, numbers, bits. -/
import Derived.Test.YtamonbkhpbdojaaDoorQ2
import Derived.Test.YtamonbkhpbdojaaDoorSn
namespace Go.Proofs.YtamonbkhpbdojaaDoor
set_option maxRecDepth 100000
open Go.RowKit

/-- The document's reader: its block br, the plain reader beside it, the fault. -/
structure RD (w : World) (br bq : Nat) (ao : Option Addr) (cap : Nat) (l : List Nat) (pos er : Nat) : Prop where
  blk : w.heap[br]? = some (.cells #[.pointer (some ⟨bq, 0, none⟩), .int .i64 (er : Int)] 73 (0, 0))
  q : QAt w bq ao cap l pos
theorem RD.ne {w : World} {br bq : Nat} {ao : Option Addr} {cap : Nat} {l : List Nat} {pos er : Nat} (h : RD w br bq ao cap l pos er) : br ≠ bq := by
  rintro rfl
  have h1 := h.blk
  rw [h.q.blk] at h1
  simp at h1
theorem RD.apart {w : World} {br bq : Nat} {ao : Option Addr} {cap : Nat} {l : List Nat} {pos er b off : Nat} (h : RD w br bq ao cap l pos er) (hl : l ≠ []) (e : ao = some ⟨b, off, none⟩) : b ≠ br := by
  intro hb
  obtain ⟨b', off', e', hc⟩ := h.q.seen hl
  rw [e] at e'
  simp at e'
  obtain ⟨rfl, rfl⟩ := e'
  have h0 := hc 0 (List.length_pos_iff.2 hl)
  rw [hb] at h0
  simp only [World.cell?, h.blk] at h0
  rcases Nat.lt_or_ge (off + 0) 2 with h2 | h2
  · have : off + 0 = 0 ∨ off + 0 = 1 := by omega
    rcases this with e | e <;> (rw [e] at h0; simp at h0)
  · rw [Array.getElem?_eq_none (by simpa using h2)] at h0; simp at h0
/-- After the plain reader has moved. -/
theorem RD.step {w w' : World} {br bq : Nat} {ao : Option Addr} {cap : Nat} {l : List Nat} {pos pos' er : Nat} (h : RD w br bq ao cap l pos er) (hq : QAt w' bq ao cap l pos') (f : Fr (fun k => k = bq) w w') : RD w' br bq ao cap l pos' er :=
  ⟨by rw [f.block br (lt_of_block h.blk) h.ne]; exact h.blk, hq⟩
theorem RD.told {w : World} {br bq : Nat} {ao : Option Addr} {cap : Nat} {l : List Nat} {pos er : Nat} (h : RD w br bq ao cap l pos er) (E : Int) (er' : Nat) (hE : E = (er' : Int)) : RD (w.setCell ⟨br, 1, none⟩ (.int .i64 E)) br bq ao cap l pos er' := by
  subst hE
  refine ⟨two_set1 h.blk, h.q.kept (Fr.one w br 1 _) (fun e => h.ne e.symm) (fun hl b off e e2 => h.apart hl e e2)⟩

set_option maxHeartbeats 2000000 in
/-- A fault: the first one stays. -/
theorem rfault_any (br bq : Nat) (ao : Option Addr) (cap : Nat) (l : List Nat) (pos er E : Nat) (w : World) (h : RD w br bq ao cap l pos er) :
    Calls Tryd.prog 36 #[.pointer (some ⟨br, 0, none⟩), .int .i64 (E : Int)] w fun e w' => e = .returned (.tuple #[]) ∧ RD w' br bq ao cap l pos (if er = 0 then E else er) ∧ Fr (fun k => k = br) w w' := by
  obtain ⟨c0, c1, cf⟩ := cell_of_two h.blk
  have HR : Hid (RD w br bq ao cap l pos er) := h
  clear h
  by_cases h0 : er = 0
  · subst h0
    have HI : Hid ((if (0 : Nat) = 0 then E else 0) = E) := if_pos rfl
    rw [HI.out]
    go_enter Tryd.func36, Tryd.ntmps36
    go_wp2_with fail
    go_end0
    exact ⟨rfl, HR.out.told _ _ rfl, Fr.one w br 1 _⟩
  · have hd : decide ((er : Int) = 0) = false := decide_eq_false (by omega)
    have hb : ((er : Int) == 0) = false := by rw [beq_eq_false_iff_ne]; omega
    rw [if_neg h0]
    clear h0
    go_enter Tryd.func36, Tryd.ntmps36
    go_wp2_with fail
    go_end0
    exact ⟨rfl, HR.out, Fr.refl _ _⟩

/-- What a number says: the fault, the number. -/
def numQ (l : List Nat) (p lo hi : Nat) : Nat × Nat := if (rvar l p).2.1 = 14 then (163, 0) else if (rvar l p).2.1 = 0 ∧ lo ≤ (rvar l p).1 ∧ (rvar l p).1 ≤ hi then (0, (rvar l p).1) else (161, 0)

theorem rbits_stay (br bq : Nat) (ao : Option Addr) (cap : Nat) (l : List Nat) (pos er : Nat) (y : Int) (w : World) (h : RD w br bq ao cap l pos er) (h0 : er ≠ 0) :
    Calls Tryd.prog 35 #[.pointer (some ⟨br, 0, none⟩), .int .i64 y] w fun e w' => e = .returned (.int .i64 0) ∧ w' = w := by
  obtain ⟨c0, c1, cf⟩ := cell_of_two h.blk
  have hb : ((er : Int) != 0) = true := by rw [bne_iff_ne]; omega
  clear h h0
  go_enter Tryd.func35, Tryd.ntmps35
  go_wp2_with fail
  go_ret
  exact ⟨rfl, rfl⟩
theorem rnum_stay (br bq : Nat) (ao : Option Addr) (cap : Nat) (l : List Nat) (pos er : Nat) (lo hi : Int) (w : World) (h : RD w br bq ao cap l pos er) (h0 : er ≠ 0) :
    Calls Tryd.prog 34 #[.pointer (some ⟨br, 0, none⟩), .int .i64 lo, .int .i64 hi] w fun e w' => e = .returned (.int .i64 0) ∧ w' = w := by
  obtain ⟨c0, c1, cf⟩ := cell_of_two h.blk
  have hb : ((er : Int) != 0) = true := by rw [bne_iff_ne]; omega
  clear h h0
  go_enter Tryd.func34, Tryd.ntmps34
  go_wp2_with fail
  go_ret
  exact ⟨rfl, rfl⟩
theorem rbits_ok (br bq : Nat) (ao : Option Addr) (cap : Nat) (l : List Nat) (pos wd : Nat) (y : Int) (w : World) (hy : y = wd) (h : RD w br bq ao cap l pos 0) (hw : wd ≤ 62) (hf : pos + wd ≤ 8 * l.length) :
    Calls Tryd.prog 35 #[.pointer (some ⟨br, 0, none⟩), .int .i64 y] w fun e w' => e = .returned (.int .i64 (num (nextBits l pos wd))) ∧ RD w' br bq ao cap l (pos + wd) 0 ∧ Fr (fun k => k = br ∨ k = bq) w w' := by
  subst hy
  obtain ⟨c0, c1, cf⟩ := cell_of_two h.blk
  have HR : Hid (RD w br bq ao cap l pos 0) := h
  have HT : Hid (Calls Tryd.prog 48 #[.pointer (some ⟨bq, 0, none⟩), .int .i64 (wd : Int)] w fun e w' => e = .returned (.tuple #[.int .u64 (num (nextBits l pos wd)), .int .i64 0]) ∧ QAt w' bq ao cap l (pos + wd) ∧ Fr (fun k => k = bq) w w') := qtake_any' bq ao cap l pos wd _ w rfl h.q (by omega) hf
  have hn : num (nextBits l pos wd) < 2 ^ 62 := Nat.lt_of_lt_of_le (num_lt _) (Nat.pow_le_pow_right (by omega) (by rw [length_nextBits _ _ _ hf]; exact hw))
  have hwr : IntKind.i64.wrap ((num (nextBits l pos wd) : Nat) : Int) = ((num (nextBits l pos wd) : Nat) : Int) := by rw [IntKind.wrap_i64]; omega
  clear h hn
  generalize num (nextBits l pos wd) = x at *
  go_enter Tryd.func35, Tryd.ntmps35
  go_wp2_with fail
  refine HT.out.mono ?_
  rintro e w1 ⟨rfl, hq, hf1⟩
  have HQ : Hid (RD w1 br bq ao cap l (pos + wd) 0) := HR.out.step hq hf1
  have HF : Hid (Fr (fun k => k = br ∨ k = bq) w w1) := hf1.mono (fun _ _ h => Or.inr h)
  clear hq hf1
  go_wp2_with fail
  go_ret
  exact ⟨rfl, HQ.out, HF.out⟩
theorem rbits_end (br bq : Nat) (ao : Option Addr) (cap : Nat) (l : List Nat) (pos wd : Nat) (y : Int) (w : World) (hy : y = wd) (h : RD w br bq ao cap l pos 0) (hw : wd ≤ 62) (hf : 8 * l.length < pos + wd) :
    Calls Tryd.prog 35 #[.pointer (some ⟨br, 0, none⟩), .int .i64 y] w fun e w' => e = .returned (.int .i64 0) ∧ RD w' br bq ao cap l pos 163 ∧ Fr (fun k => k = br ∨ k = bq) w w' := by
  subst hy
  obtain ⟨c0, c1, cf⟩ := cell_of_two h.blk
  have HR : Hid (RD w br bq ao cap l pos 0) := h
  have HT : Hid (Calls Tryd.prog 48 #[.pointer (some ⟨bq, 0, none⟩), .int .i64 (wd : Int)] w fun e w' => e = .returned (.tuple #[.int .u64 0, .int .i64 14]) ∧ ∃ q, w' = w.drewN q) := qtake_end' bq ao cap l pos wd _ w rfl h.q (by omega) hf
  clear h
  go_enter Tryd.func35, Tryd.ntmps35
  go_wp2_with fail
  refine HT.out.mono ?_
  rintro e _ ⟨rfl, q, rfl⟩
  have f0 : Fr (fun k => k = bq) w (w.drewN q) := (Fr.refl _ _).drewN q
  have HQ : Hid (RD (w.drewN q) br bq ao cap l pos 0) := HR.out.step (HR.out.q.drewN q) f0
  have HF : Hid (Fr (fun k => k = br ∨ k = bq) w (w.drewN q)) := (Fr.refl _ _).drewN q
  clear f0
  generalize w.drewN q = w1 at *
  go_wp2_with fail
  refine (rfault_any br bq ao cap l pos 0 163 w1 HQ.out).mono ?_
  rintro e w2 ⟨rfl, hr2, hf2⟩
  have HR2 : Hid (RD w2 br bq ao cap l pos 163) := hr2
  have HF2 : Hid (Fr (fun k => k = br ∨ k = bq) w w2) := HF.out.trans hf2 (fun _ _ h => Or.inl h)
  clear hr2 hf2
  go_wp2_with fail
  go_ret
  exact ⟨rfl, HR2.out, HF2.out⟩

set_option maxHeartbeats 4000000 in
theorem rnum_any (br bq : Nat) (ao : Option Addr) (cap : Nat) (l : List Nat) (pos lo hi : Nat) (y z : Int) (w : World) (hy : y = lo) (hz : z = hi) (hlo : lo ≤ 9223372036854775807) (hhi : hi ≤ 9223372036854775807) (h : RD w br bq ao cap l pos 0) :
    Calls Tryd.prog 34 #[.pointer (some ⟨br, 0, none⟩), .int .i64 y, .int .i64 z] w fun e w' => e = .returned (.int .i64 ((numQ l pos lo hi).2 : Nat)) ∧ RD w' br bq ao cap l (backTo (rvar l pos).2.1 (rvar l pos).2.2 pos) (numQ l pos lo hi).1 ∧ Fr (fun k => k = br ∨ k = bq) w w' := by
  subst hy hz
  obtain ⟨c0, c1, cf⟩ := cell_of_two h.blk
  have HR : Hid (RD w br bq ao cap l pos 0) := h
  obtain ⟨n0, er, p2, hv⟩ : ∃ n0 er p2, rvar l pos = (n0, er, p2) := ⟨_, _, _, rfl⟩
  have HT : Hid (Calls Tryd.prog 47 #[.pointer (some ⟨bq, 0, none⟩)] w fun e w' => e = .returned (.tuple #[.int .u64 n0, .int .i64 er]) ∧ QAt w' bq ao cap l (backTo er p2 pos) ∧ Fr (fun k => k = bq) w w') := qvar_any bq ao cap l pos n0 er p2 w h.q hv
  have HN : Hid (numQ l pos lo hi = if er = 14 then (163, 0) else if er = 0 ∧ lo ≤ n0 ∧ n0 ≤ hi then (0, n0) else (161, 0)) := by
    show _ = _
    unfold numQ; rw [hv]
  have hwl : IntKind.u64.wrap (lo : Int) = (lo : Int) := by rw [IntKind.wrap_u64]; omega
  have hwh : IntKind.u64.wrap (hi : Int) = (hi : Int) := by rw [IntKind.wrap_u64]; omega
  simp only [hv]
  clear h hv
  by_cases h14 : er = 14
  · have HX : Hid (numQ l pos lo hi = (163, 0)) := by show _ = _; rw [HN.out, if_pos h14]
    rw [HX.out]
    subst h14
    go_enter Tryd.func34, Tryd.ntmps34
    go_wp2_with fail
    refine HT.out.mono ?_
    rintro e w1 ⟨rfl, hq, hf1⟩
    have HQ : Hid (RD w1 br bq ao cap l (backTo 14 p2 pos) 0) := HR.out.step hq hf1
    have HF : Hid (Fr (fun k => k = br ∨ k = bq) w w1) := hf1.mono (fun _ _ h => Or.inr h)
    clear hq hf1
    go_wp2_with fail
    refine (rfault_any br bq ao cap l (backTo 14 p2 pos) 0 163 w1 HQ.out).mono ?_
    rintro e w2 ⟨rfl, hr2, hf2⟩
    have HR2 : Hid (RD w2 br bq ao cap l (backTo 14 p2 pos) 163) := hr2
    have HF2 : Hid (Fr (fun k => k = br ∨ k = bq) w w2) := HF.out.trans hf2 (fun _ _ h => Or.inl h)
    clear hr2 hf2
    obtain ⟨r0, r1, rf⟩ := cell_of_two HR2.out.blk
    go_wp2_with fail
    go_ret
    exact ⟨rfl, HR2.out, HF2.out⟩
  have e14 : ((er : Int) == 14) = false := by rw [beq_eq_false_iff_ne]; omega
  by_cases hok : er = 0 ∧ lo ≤ n0 ∧ n0 ≤ hi
  · have HX : Hid (numQ l pos lo hi = (0, n0)) := by show _ = _; rw [HN.out, if_neg h14, if_pos hok]
    rw [HX.out]
    obtain ⟨rfl, h1, h2⟩ := hok
    have d1 : decide ((n0 : Int) < (lo : Int)) = false := decide_eq_false (by omega)
    have d2 : decide ((hi : Int) < (n0 : Int)) = false := decide_eq_false (by omega)
    have hwn : IntKind.i64.wrap (n0 : Int) = (n0 : Int) := by rw [IntKind.wrap_i64]; omega
    clear h14
    go_enter Tryd.func34, Tryd.ntmps34
    go_wp2_with fail
    refine HT.out.mono ?_
    rintro e w1 ⟨rfl, hq, hf1⟩
    have HQ : Hid (RD w1 br bq ao cap l (backTo 0 p2 pos) 0) := HR.out.step hq hf1
    have HF : Hid (Fr (fun k => k = br ∨ k = bq) w w1) := hf1.mono (fun _ _ h => Or.inr h)
    clear hq hf1
    obtain ⟨r0, r1, rf⟩ := cell_of_two HQ.out.blk
    go_wp2_with fail
    go_ret
    exact ⟨rfl, HQ.out, HF.out⟩
  · have HX : Hid (numQ l pos lo hi = (161, 0)) := by show _ = _; rw [HN.out, if_neg h14, if_neg hok]
    rw [HX.out]
    have FIN : ∀ w1, QAt w1 bq ao cap l (backTo er p2 pos) → Fr (fun k => k = bq) w w1 → RD w1 br bq ao cap l (backTo er p2 pos) 0 ∧ Fr (fun k => k = br ∨ k = bq) w w1 := fun w1 hq hf => ⟨HR.out.step hq hf, hf.mono (fun _ _ h => Or.inr h)⟩
    have HFIN := (show Hid _ from FIN)
    clear FIN
    rcases (by omega : (er ≠ 0) ∨ (er = 0 ∧ n0 < lo) ∨ (er = 0 ∧ lo ≤ n0 ∧ hi < n0)) with h0 | ⟨rfl, h0⟩ | ⟨rfl, h0, h1⟩
    · have e0 : ((er : Int) != 0) = true := by rw [bne_iff_ne]; omega
      clear hok h14 h0
      go_enter Tryd.func34, Tryd.ntmps34
      go_wp2_with fail
      refine HT.out.mono ?_
      rintro e w1 ⟨rfl, hq, hf1⟩
      obtain ⟨hq1, hf⟩ := HFIN.out w1 hq hf1
      have HQ : Hid (RD w1 br bq ao cap l (backTo er p2 pos) 0) := hq1
      have HF : Hid (Fr (fun k => k = br ∨ k = bq) w w1) := hf
      clear hq hf1 hq1 hf
      go_wp2_with fail
      refine (rfault_any br bq ao cap l (backTo er p2 pos) 0 161 w1 HQ.out).mono ?_
      rintro e w2 ⟨rfl, hr2, hf2⟩
      have HR2 : Hid (RD w2 br bq ao cap l (backTo er p2 pos) 161) := hr2
      have HF2 : Hid (Fr (fun k => k = br ∨ k = bq) w w2) := HF.out.trans hf2 (fun _ _ h => Or.inl h)
      clear hr2 hf2
      obtain ⟨r0, r1, rf⟩ := cell_of_two HR2.out.blk
      go_wp2_with fail
      go_ret
      exact ⟨rfl, HR2.out, HF2.out⟩
    · have d1 : decide ((n0 : Int) < (lo : Int)) = true := decide_eq_true (by omega)
      have g1 : decide (n0 < lo) = true := decide_eq_true (by omega)
      clear hok h14 h0
      go_enter Tryd.func34, Tryd.ntmps34
      go_wp2_with fail
      refine HT.out.mono ?_
      rintro e w1 ⟨rfl, hq, hf1⟩
      obtain ⟨hq1, hf⟩ := HFIN.out w1 hq hf1
      have HQ : Hid (RD w1 br bq ao cap l (backTo 0 p2 pos) 0) := hq1
      have HF : Hid (Fr (fun k => k = br ∨ k = bq) w w1) := hf
      clear hq hf1 hq1 hf
      go_wp2_with fail
      refine (rfault_any br bq ao cap l (backTo 0 p2 pos) 0 161 w1 HQ.out).mono ?_
      rintro e w2 ⟨rfl, hr2, hf2⟩
      have HR2 : Hid (RD w2 br bq ao cap l (backTo 0 p2 pos) 161) := hr2
      have HF2 : Hid (Fr (fun k => k = br ∨ k = bq) w w2) := HF.out.trans hf2 (fun _ _ h => Or.inl h)
      clear hr2 hf2
      obtain ⟨r0, r1, rf⟩ := cell_of_two HR2.out.blk
      go_wp2_with fail
      go_ret
      exact ⟨rfl, HR2.out, HF2.out⟩
    · have d1 : decide ((n0 : Int) < (lo : Int)) = false := decide_eq_false (by omega)
      have d2 : decide ((hi : Int) < (n0 : Int)) = true := decide_eq_true (by omega)
      have g1 : decide (n0 < lo) = false := decide_eq_false (by omega)
      have g2 : decide (hi < n0) = true := decide_eq_true (by omega)
      clear hok h14 h0 h1
      go_enter Tryd.func34, Tryd.ntmps34
      go_wp2_with fail
      refine HT.out.mono ?_
      rintro e w1 ⟨rfl, hq, hf1⟩
      obtain ⟨hq1, hf⟩ := HFIN.out w1 hq hf1
      have HQ : Hid (RD w1 br bq ao cap l (backTo 0 p2 pos) 0) := hq1
      have HF : Hid (Fr (fun k => k = br ∨ k = bq) w w1) := hf
      clear hq hf1 hq1 hf
      go_wp2_with fail
      refine (rfault_any br bq ao cap l (backTo 0 p2 pos) 0 161 w1 HQ.out).mono ?_
      rintro e w2 ⟨rfl, hr2, hf2⟩
      have HR2 : Hid (RD w2 br bq ao cap l (backTo 0 p2 pos) 161) := hr2
      have HF2 : Hid (Fr (fun k => k = br ∨ k = bq) w w2) := HF.out.trans hf2 (fun _ _ h => Or.inl h)
      clear hr2 hf2
      obtain ⟨r0, r1, rf⟩ := cell_of_two HR2.out.blk
      go_wp2_with fail
      go_ret
      exact ⟨rfl, HR2.out, HF2.out⟩
end Go.Proofs.YtamonbkhpbdojaaDoor
