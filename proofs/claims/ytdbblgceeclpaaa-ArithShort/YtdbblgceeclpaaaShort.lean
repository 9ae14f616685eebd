/- The law 'ArithShort'. -/
import Derived.Test.YtdbblgceeclpaaaShortN
namespace Go.Proofs.Ytdbblgceeclpaaa
open Go.RowKit

theorem flushP_len (s : Cs) : (flushP s).length ≤ s.b.length + 2 := by
  unfold flushP
  split
  · simp [flush2, flush1, outP]
  · simp [flush2, flush1, outP]

set_option maxRecDepth 100000 in
set_option maxHeartbeats 4000000 in
theorem short_any (mo : Int) (bmo : -9223372036854775808 ≤ mo ∧ mo ≤ 9223372036854775807) (ao : Option Addr) (nn cap : Nat) (K D : Nat → Int) (w : World) (h : DecsAt w ao nn K D) :
    Calls Try.prog 7 #[.agg #[.int .i64 mo, .slice ao nn cap]] w fun e w' => e = .returned (.bool true) ∧ Fr (fun _ => False) w w' := by
  have hnn := h.lim
  have HD : Hid (DecsAt w ao nn K D) := h
  clear h
  go_enter Try.func7, Try.ntmps7
  go_wp2_with fail
  refine (within_any mo 12 _ bmo (by decide) (by decide)).mono ?_
  obtain ⟨p, hp⟩ : ∃ p, p = placeOf mo 12 := ⟨_, rfl⟩
  have hp12 : p < 12 := by rw [hp]; exact placeOf_lt mo (by decide)
  rw [← hp]
  clear hp bmo
  rintro e w1 ⟨rfl, hw1⟩
  have HW1 : Hid (Fr (fun _ => False) w w1) := by rw [hw1]; exact (Fr.refl _ _).alloc _
  have hblk : w1.heap[w.heap.size]? = some (.cells #[.int .i64 mo, .slice ao nn cap] 51 (0, 0)) := by rw [hw1]; exact heap_alloc_new _ _
  obtain ⟨B, HB⟩ : ∃ B, Hid (B = w.heap.size) := ⟨_, rfl⟩
  rw [← HB.out] at hblk ⊢
  have c1 : w1.cell? ⟨B, 1, none⟩ = some (.slice ao nn cap) := by simp [World.cell?, hblk]
  have hBlt : B < w1.heap.size := lt_of_block hblk
  clear hw1 hblk
  obtain ⟨n, hn⟩ : ∃ n, n = 1 + p := ⟨_, rfl⟩
  have hni : 1 + (p : Int) = (n : Int) := by omega
  have hn1 : 1 ≤ n := by omega
  have hn2 : n ≤ 12 := by omega
  have HN : Hid (1 ≤ n ∧ n ≤ 131072) := ⟨by omega, by omega⟩
  obtain ⟨F, HF⟩ : ∃ F : Nat → Nat, Hid (F = fun j => if j < nn then lowBit (D j) else 0) := ⟨_, rfl⟩
  have HF2 : Hid (∀ j, F j < 2) := by
    intro j
    rw [HF.out]
    show (if j < nn then lowBit (D j) else 0) < 2
    split
    · exact lowBit_lt _
    · decide
  clear hn
  go_wp2_with fail
  refine (new_any w1 n HN.out.1 HN.out.2).mono ?_
  rintro e w2 ⟨bc, gc, gb, rfl, hc2, hf2, s1, s2, s3⟩
  have HC2 : Hid (CoAt w2 bc gc n gb 1 (runC n (ctxOf n) (bitOf n F) 0)) := hc2
  have HFR2 : Hid (Fr (fun _ => False) w1 w2) := hf2
  have HSZ : Hid (w1.heap.size ≤ bc ∧ w1.heap.size ≤ gc ∧ w1.heap.size ≤ gb) := ⟨s1, s2, s3⟩
  clear hc2 hf2 s1 s2 s3
  go_wp2_with fail
  go_loopw [6] (fun i wr => ∃ (k gb' cb' : Nat), k ≤ 20000 ∧ i = .int .i64 k ∧ CoAt wr bc gc n gb' cb' (runC n (ctxOf n) (bitOf n F) k) ∧ Fr (fun _ => False) w1 wr ∧ w1.heap.size ≤ gb') (fun i _ => 20000 - (intOf i).toNat)
  case atStart => exact ⟨0, gb, 1, by decide, rfl, HC2.out, HFR2.out, HSZ.out.2.2⟩
  case round =>
    obtain ⟨k, gb', cb', hk, rfl, hco, hfr, hgb⟩ := hrel
    have HCO : Hid (CoAt wr bc gc n gb' cb' (runC n (ctxOf n) (bitOf n F) k)) := hco
    have HFR : Hid (Fr (fun _ => False) w1 wr ∧ w1.heap.size ≤ gb') := ⟨hfr, hgb⟩
    have cr := hfr.cell c1 (fun hh => hh)
    clear hco hfr hgb
    by_cases hlt : k < 20000
    · obtain ⟨r, HR⟩ : ∃ r, Hid (r = k % n) := ⟨_, rfl⟩
      have hr1 : (k : Int).tmod (n : Int) = (r : Int) := by rw [HR.out, Int.tmod_eq_emod_of_nonneg (by omega)]; rfl
      have hr2 : (k : Int) % (n : Int) = (r : Int) := by rw [HR.out]; rfl
      have hrn : r < n := by rw [HR.out]; exact Nat.mod_lt _ hn1
      have hn0 : (n : Int) ≠ 0 := by omega
      have hn3 : ((n : Int) == 0) = false := by rw [beq_eq_false_iff_ne]; omega
      obtain ⟨bit, HBIT⟩ : ∃ bit, Hid (bit = F r) := ⟨_, rfl⟩
      have hbit : bit < 2 := by rw [HBIT.out]; exact HF2.out r
      have HP : Hid (Calls Try.prog 11 #[.pointer (some ⟨bc, 0, none⟩), .int .i64 (r : Int), .int .i64 (bit : Int)] wr fun e w' => e = .returned (.int .i64 0) ∧ ∃ gb2 cb2, CoAt w' bc gc n gb2 cb2 (runC n (ctxOf n) (bitOf n F) (k + 1)) ∧ CStep bc gc gb' gb2 wr w') := by
        obtain ⟨ok1, ok2, ok3⟩ := runC_ok HN.out.1 HN.out.2 (ctxOf n) (bitOf n F) k (by omega)
        have := put_any wr bc gc n gb' cb' _ HCO.out ok1 (by rw [ok2]; omega) (r : Int) (by omega) bit hbit
        have e : putP (runC n (ctxOf n) (bitOf n F) k) (r : Int) bit = runC n (ctxOf n) (bitOf n F) (k + 1) := by
          show _ = putP _ (ctxOf n k) (bitOf n F k)
          unfold ctxOf bitOf
          rw [← HR.out, ← HBIT.out]
        rw [e] at this
        exact this
      by_cases hrn2 : r < nn
      · obtain ⟨b, off, rfl, hcc⟩ := (HD.out.kept (HW1.out.trans HFR.out.1 (fun _ _ hh => hh))).at_ (by omega)
        obtain ⟨_, cD⟩ := hcc r hrn2
        clear hcc
        obtain ⟨dd, hdd⟩ : ∃ dd, dd = D r := ⟨_, rfl⟩
        rw [← hdd] at cD
        have hand : bits BinOp.and IntKind.i64 dd 1 = (bit : Int) := by
          rw [lowBit_and, hdd, HBIT.out, HF.out]
          show _ = (((if r < nn then lowBit (D r) else 0) : Nat) : Int)
          rw [if_pos hrn2]
        clear hdd
        go_wp2_with fail
        refine HP.out.mono ?_
        rintro e w3 ⟨rfl, gb2, cb2, hc3, hs3⟩
        obtain ⟨f3, g3⟩ := CStep.fresh HFR.out.1 hs3 ⟨HSZ.out.1, HSZ.out.2.1, HFR.out.2⟩
        have HE : Hid (CoAt w3 bc gc n gb2 cb2 (runC n (ctxOf n) (bitOf n F) (k + 1)) ∧ Fr (fun _ => False) w1 w3 ∧ w1.heap.size ≤ gb2) := ⟨hc3, f3, g3⟩
        clear hc3 hs3 f3 g3
        go_wp2_with fail
        refine ⟨⟨k + 1, gb2, cb2, by omega, congrArg (Value.int .i64) (by omega), HE.out⟩, by simp [intOf]; omega⟩
      · have hb0 : bit = 0 := by
          rw [HBIT.out, HF.out]
          show (if r < nn then lowBit (D r) else 0) = 0
          rw [if_neg hrn2]
        subst hb0
        go_wp2_with fail
        refine HP.out.mono ?_
        rintro e w3 ⟨rfl, gb2, cb2, hc3, hs3⟩
        obtain ⟨f3, g3⟩ := CStep.fresh HFR.out.1 hs3 ⟨HSZ.out.1, HSZ.out.2.1, HFR.out.2⟩
        have HE : Hid (CoAt w3 bc gc n gb2 cb2 (runC n (ctxOf n) (bitOf n F) (k + 1)) ∧ Fr (fun _ => False) w1 w3 ∧ w1.heap.size ≤ gb2) := ⟨hc3, f3, g3⟩
        clear hc3 hs3 f3 g3
        go_wp2_with fail
        refine ⟨⟨k + 1, gb2, cb2, by omega, congrArg (Value.int .i64) (by omega), HE.out⟩, by simp [intOf]; omega⟩
    · have hk2 : k = 20000 := by omega
      subst hk2
      go_wp2_with fail
      refine (flush_any wr bc gc n gb' cb' _ HCO.out (runC_ok HN.out.1 HN.out.2 (ctxOf n) (bitOf n F) 20000 (by decide)).1).mono ?_
      rintro e w4 ⟨q, m, cp, rfl, hse, hdo, hst, hq, hq'⟩
      have hm : m ≤ 8 + 3 * n := by
        obtain ⟨ao', cp', e, _⟩ := hse
        simp only [Value.slice.injEq] at e
        have a1 := short_len hn1 hn2 (shortAll n hn1 hn2) F HF2.out
        have a2 := flushP_len (runC n (ctxOf n) (bitOf n F) 20000).s
        omega
      have HF4 : Hid (Fr (fun _ => False) w1 w4) := (CStep.fresh HFR.out.1 hst ⟨HSZ.out.1, HSZ.out.2.1, HFR.out.2⟩).1
      clear hse hdo hst hq hq'
      go_wp2_with fail
      refine (wakes_any w4).mono ?_
      rintro e w5 ⟨rfl, hf5⟩
      go_wp2_with fail
      go_ret
      exact ⟨rfl, (HW1.out.trans HF4.out (fun _ _ hh => hh)).trans hf5 (fun _ _ hh => hh)⟩

end Go.Proofs.Ytdbblgceeclpaaa
