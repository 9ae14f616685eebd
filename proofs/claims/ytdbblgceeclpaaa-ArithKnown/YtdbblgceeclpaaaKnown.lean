/- The law 'ArithKnown'. -/
import Derived.Deep.RegionHeld3
import Derived.Test.YtdbblgceeclpaaaTwo
namespace Go.Proofs.Ytdbblgceeclpaaa
open Go.RowKit

def knownIn : List Nat := [0x00, 0x02, 0x00, 0x51, 0x00, 0x00, 0x00, 0xc0, 0x03, 0x52, 0x87, 0x2a, 0xaa, 0xaa, 0xaa, 0xaa, 0x82, 0xc0, 0x20, 0x00, 0xfc, 0xd7, 0x9e, 0xf6, 0xbf, 0x7f, 0xed, 0x90, 0x4f, 0x46, 0xa3, 0xbf]
def knownOut : List Nat := [0x84, 0xc7, 0x3b, 0xfc, 0xe1, 0xa1, 0x43, 0x04, 0x02, 0x20, 0x00, 0x00, 0x41, 0x0d, 0xbb, 0x86, 0xf4, 0x31, 0x7f, 0xff, 0x88, 0xff, 0x37, 0x47, 0x1a, 0xdb, 0x6a, 0xdf]
def knownBit (i : Nat) : Nat := knownIn.getD (i / 8) 0 / 2 ^ (7 - i % 8) % 2
def knownC : Nat → Co
  | 0 => newP 1
  | k + 1 => putP (knownC k) 0 (knownBit k)
def knownD : Nat → De
  | 0 => newD knownOut 1
  | k + 1 => getP knownOut (knownD k) 0
theorem knownOut_lt : ∀ y ∈ knownOut, y < 256 := by
  have h : knownOut.all (fun y => decide (y < 256)) = true := by decide +kernel
  intro y hy
  simpa using List.all_eq_true.1 h y hy
theorem knownC_ok : ∀ k, k ≤ 256 → Ook (knownC k) ∧ (knownC k).made = k ∧ (knownC k).x.length = 1
  | 0, _ => ⟨newP_ok (by decide) (by decide), rfl, rfl⟩
  | k + 1, h => by
    obtain ⟨h1, h2, h3⟩ := knownC_ok k (by omega)
    exact ⟨putP_ok h1 _ _ (by omega), by show (knownC k).made + 1 = _; omega, by show (putP _ _ _).x.length = 1; rw [putP_xlen, h3]⟩
theorem knownD_ok : ∀ k, k ≤ 256 → Eok knownOut (knownD k) ∧ (knownD k).made = k ∧ (knownD k).x.length = 1
  | 0, _ => ⟨newD_ok (by decide) (by decide) knownOut_lt, rfl, rfl⟩
  | k + 1, h => by
    obtain ⟨h1, h2, h3⟩ := knownD_ok k (by omega)
    exact ⟨getP_ok h1 _ (by omega), by show (knownD k).made + 1 = _; omega, by show (List.set _ _ _).length = 1; rw [List.length_set, h3]⟩
/-- The decisions from k on are right, and the contexts in the end. -/
def knownRight : Nat → Nat → De → Co → Bool
  | 0, _, d, c => d.x == c.x
  | n + 1, k, d, c => getBit d 0 == knownBit k && knownRight n (k + 1) (getP knownOut d 0) c
theorem knownRight_all {c : Co} : ∀ (n k : Nat), knownRight n k (knownD k) c = true → (∀ j, j < n → getBit (knownD (k + j)) 0 = knownBit (k + j)) ∧ (knownD (k + n)).x = c.x
  | 0, k, h => ⟨by omega, by simpa [knownRight] using h⟩
  | n + 1, k, h => by
    simp only [knownRight, Bool.and_eq_true, beq_iff_eq] at h
    obtain ⟨h1, h2⟩ := h
    obtain ⟨a, b⟩ := knownRight_all n (k + 1) h2
    refine ⟨fun j hj => ?_, by rw [show k + (n + 1) = k + 1 + n by omega]; exact b⟩
    cases j with
    | zero => exact h1
    | succ j => rw [show k + (j + 1) = k + 1 + j by omega]; exact a j (by omega)
theorem knownFlush : flushP (knownC 256).s = knownOut := by decide +kernel
theorem knownAll : (∀ j, j < 256 → getBit (knownD j) 0 = knownBit j) ∧ (knownD 256).x = (knownC 256).x := by
  have h : knownRight 256 0 (newD knownOut 1) (knownC 256) = true := by decide +kernel
  obtain ⟨a, b⟩ := knownRight_all 256 0 h
  simp only [Nat.zero_add] at a b
  exact ⟨a, b⟩

set_option maxRecDepth 100000 in
set_option maxHeartbeats 1000000 in
theorem known_any (w : World) : Calls Try.prog 9 #[] w fun e w' => ∃ g1 g2, e = .returned (.tuple #[.slice (some ⟨g1, 0, none⟩) 32 32, .slice (some ⟨g2, 0, none⟩) 28 28]) ∧ SeenAt w' (.slice (some ⟨g1, 0, none⟩) 32 32) knownIn ∧ SeenAt w' (.slice (some ⟨g2, 0, none⟩) 28 28) knownOut ∧ Fr (fun _ => False) w w' ∧ w.heap.size ≤ g1 ∧ w.heap.size ≤ g2 := by
  go_enter Try.func9, Try.ntmps9
  go_wp2_with fail
  go_ret2
  have o1 := World.ownsRow_lit (base := 0) (e := 5) (size := 1) w (byteCells knownIn).toArray 32 (Nat.zero_le _) (by decide) rfl
  refine ⟨w.heap.size, w.heap.size + 1, rfl, ?_, ?_, ((Fr.refl _ _).alloc _).alloc _, Nat.le_refl _, by omega⟩
  · exact SeenAt.of_row (l := knownIn) (o1.alloc _) (by decide)
  · have o2 := World.ownsRow_lit (base := 0) (e := 5) (size := 1) (w.alloc (.cells (byteCells knownIn).toArray 5)) (byteCells knownOut).toArray 28 (Nat.zero_le _) (by decide) rfl
    rw [World.size_alloc] at o2
    exact SeenAt.of_row (l := knownOut) o2 (by decide)

theorem known_bit (v s : Nat) (hv : v < 256) : bits BinOp.and IntKind.u8 ((v : Int) / 2 ^ s) 1 = ((v / 2 ^ s % 2 : Nat) : Int) := by
  have h1 : v / 2 ^ s < 256 := Nat.lt_of_le_of_lt (Nat.div_le_self _ _) hv
  have h2 : ((v : Int) / 2 ^ s) = ((v / 2 ^ s : Nat) : Int) := by push_cast; rfl
  rw [h2]
  have h3 := u8_and_nat (v / 2 ^ s) 1 h1 (by decide)
  rw [Nat.and_one_is_mod] at h3
  exact h3
theorem knownIn_lt : ∀ j, knownIn.getD j 0 < 256 := by
  intro j
  have h : knownIn.all (fun y => decide (y < 256)) = true := by decide +kernel
  rw [List.getD_eq_getElem?_getD]
  by_cases hi : j < knownIn.length
  · rw [List.getElem?_eq_getElem hi]; simpa using List.all_eq_true.1 h _ (List.getElem_mem hi)
  · rw [List.getElem?_eq_none (by omega)]; decide

set_option maxRecDepth 100000 in
set_option maxHeartbeats 4000000 in
theorem arithKnown_any (w : World) : Calls Try.prog 3 #[] w fun e w' => e = .returned (.bool true) ∧ Fr (fun _ => False) w w' := by
  go_enter Try.func3, Try.ntmps3
  go_wp2_with fail
  refine (known_any w).mono ?_
  rintro e w1 ⟨g1, g2, rfl, hs1, hs2, hf1, hg1, hg2⟩
  have HK1 : Hid (SeenAt w1 (.slice (some ⟨g1, 0, none⟩) 32 32) knownIn) := hs1
  have HK2 : Hid (SeenAt w1 (.slice (some ⟨g2, 0, none⟩) 28 28) knownOut) := hs2
  have HF1 : Hid (Fr (fun _ => False) w w1) := hf1
  clear hs1 hs2 hf1 hg1 hg2
  have HIN : Hid (∀ wr, Fr (fun _ => False) w1 wr → ∀ j, j < 32 → wr.cell? ⟨g1, j, none⟩ = some (.int .u8 (knownIn.getD j 0 : Nat))) := by
    intro wr f j hj
    obtain ⟨ao, cp, e, _, hc⟩ := HK1.out.kept f (fun _ _ hh => hh)
    obtain ⟨b, off, rfl, hcc⟩ := hc (by decide)
    simp only [Value.slice.injEq, Option.some.injEq, Addr.mk.injEq] at e
    obtain ⟨⟨rfl, rfl, _⟩, _⟩ := e
    have := hcc j (by show j < 32; exact hj)
    rw [Nat.zero_add] at this
    rw [this, List.getD_eq_getElem?_getD]
  go_wp2_with fail
  refine (new_any w1 1 (by decide) (by decide)).mono ?_
  rintro e w2 ⟨bc, gc, gb, rfl, hc2, hf2, s1, s2, s3⟩
  have HC2 : Hid (CoAt w2 bc gc 1 gb 1 (knownC 0)) := hc2
  have HF2 : Hid (Fr (fun _ => False) w1 w2) := hf2
  have HSZ : Hid (w1.heap.size ≤ bc ∧ w1.heap.size ≤ gc ∧ w1.heap.size ≤ gb) := ⟨s1, s2, s3⟩
  clear hc2 hf2 s1 s2 s3
  go_wp2_with fail
  go_loopw [5] (fun i wr => ∃ (k gb' cb' : Nat), k ≤ 256 ∧ i = .int .i64 k ∧ CoAt wr bc gc 1 gb' cb' (knownC k) ∧ Fr (fun _ => False) w1 wr ∧ w1.heap.size ≤ gb') (fun i _ => 256 - (intOf i).toNat)
  case atStart => exact ⟨0, gb, 1, by decide, rfl, HC2.out, HF2.out, HSZ.out.2.2⟩
  case round =>
    obtain ⟨k, gb', cb', hk, rfl, hco, hfr, hgb⟩ := hrel
    have HCO : Hid (CoAt wr bc gc 1 gb' cb' (knownC k)) := hco
    have HFR : Hid (Fr (fun _ => False) w1 wr ∧ w1.heap.size ≤ gb') := ⟨hfr, hgb⟩
    clear hco hfr hgb
    by_cases hlt : k < 256
    · have cb := HIN.out wr HFR.out.1 (k / 8) (by omega)
      obtain ⟨v, HV⟩ : ∃ v, Hid (v = knownIn.getD (k / 8) 0) := ⟨_, rfl⟩
      rw [← HV.out] at cb
      obtain ⟨s, HS⟩ : ∃ s, Hid (s = 7 - k % 8) := ⟨_, rfl⟩
      have hs : (7 : Int) - (k : Int) % 8 = (s : Int) := by rw [HS.out]; omega
      have hs8 : s < 8 := by rw [HS.out]; omega
      obtain ⟨bit, HBIT⟩ : ∃ bit, Hid (bit = knownBit k) := ⟨_, rfl⟩
      have hbit : bit < 2 := by rw [HBIT.out]; exact Nat.mod_lt _ (by decide)
      have hand : bits BinOp.and IntKind.u8 ((v : Int) / 2 ^ s) 1 = (bit : Int) := by
        rw [known_bit v s (by rw [HV.out]; exact knownIn_lt _), HBIT.out, knownBit, ← HV.out, ← HS.out]
      go_wp2_with fail
      refine (put_any wr bc gc 1 gb' cb' (knownC k) HCO.out (knownC_ok k hk).1 (by rw [(knownC_ok k hk).2.1]; omega) 0 (by omega) bit hbit).mono ?_
      rintro e w3 ⟨rfl, gb2, cb2, hc3, hs3⟩
      obtain ⟨f3, n3⟩ := CStep.fresh HFR.out.1 hs3 ⟨HSZ.out.1, HSZ.out.2.1, HFR.out.2⟩
      have HE : Hid (CoAt w3 bc gc 1 gb2 cb2 (knownC (k + 1)) ∧ Fr (fun _ => False) w1 w3 ∧ w1.heap.size ≤ gb2) := by
        refine ⟨?_, f3, n3⟩
        rw [HBIT.out] at hc3; exact hc3
      clear hc3 hs3 f3 n3
      go_wp2_with fail
      refine ⟨⟨k + 1, gb2, cb2, by omega, congrArg (Value.int .i64) (by omega), HE.out⟩, by simp [intOf]; omega⟩
    · have hk2 : k = 256 := by omega
      subst hk2
      go_wp2_with fail
      refine (flush_any wr bc gc 1 gb' cb' (knownC 256) HCO.out (knownC_ok 256 (by decide)).1).mono ?_
      rintro e w3 ⟨q, n, cap, rfl, hse, hdo, hst, hn1, hn2⟩
      obtain ⟨f3, n3⟩ := CStep.fresh HFR.out.1 hst ⟨HSZ.out.1, HSZ.out.2.1, HFR.out.2⟩
      have HSE : Hid (SeenAt w3 (.slice (some ⟨q, 1, none⟩) n cap) knownOut) := by rw [knownFlush] at hse; exact hse
      have HDO : Hid (DoAt w3 bc gc 1 (knownC 256).x) := hdo
      have HF3 : Hid (Fr (fun _ => False) w1 w3) := f3
      clear hse hdo hst hn1 hn2 f3 n3
      go_wp2_with fail
      refine (newDecoder_any w3 _ knownOut 1 (by decide) (by decide) (HK2.out.kept HF3.out (fun _ _ hh => hh)) (Or.inr ⟨_, _, _, rfl⟩) knownOut_lt).mono ?_
      rintro e w4 ⟨bd, gd, vb, rfl, hd4, hf4, t1, t2, t3⟩
      have HD4 : Hid (DeAt w4 bd gd 1 vb knownOut (knownD 0)) := hd4
      have HF4 : Hid (Fr (fun _ => False) w1 w4) := HF3.out.trans hf4 (fun _ _ hh => hh)
      have HT : Hid (w3.heap.size ≤ bd ∧ w3.heap.size ≤ gd) := ⟨t1, t2⟩
      have HDO4 : Hid (DoAt w4 bc gc 1 (knownC 256).x) := HDO.out.kept hf4 (fun hh => hh) (fun hh => hh)
      have HQ : Hid (Calls Try.prog 14 #[.slice (some ⟨q, 1, none⟩) n cap, .slice (some ⟨g2, 0, none⟩) 28 28] w4 fun e w' => e = .returned (.bool true) ∧ ∃ q, w' = w4.drewN q) := by
        have := eq_any _ _ _ _ w4 (HSE.out.kept hf4 (fun _ _ hh => hh)) (HK2.out.kept HF4.out (fun _ _ hh => hh))
        rw [decide_eq_true rfl] at this
        exact this
      have HZ : Hid (bc < w3.heap.size ∧ gc < w3.heap.size) := ⟨HDO.out.lt, HDO.out.xlt⟩
      clear hd4 hf4 t1 t2 t3
      have hnot : ∀ (x : Bool) (w : World), (Op.unary .not (.bool x)).run Try.prog w = .ok (.bool (!x)) w := fun _ _ => rfl
      go_wp2_with fail
      refine HQ.out.mono ?_
      rintro e w5 ⟨rfl, q5, hw5⟩
      have HF5 : Hid (Fr (fun _ => False) w4 w5) := by rw [hw5]; exact (Fr.refl _ _).drewN q5
      clear hw5
      go_wp2_with fail
      go_loopw [9] (fun i wr => ∃ (k : Nat), k ≤ 256 ∧ i = .int .i64 k ∧ DeAt wr bd gd 1 vb knownOut (knownD k) ∧ DoAt wr bc gc 1 (knownC 256).x ∧ Fr (fun _ => False) w1 wr) (fun i _ => 256 - (intOf i).toNat)
      case atStart => exact ⟨0, by decide, rfl, HD4.out.keptAll HF5.out, HDO4.out.kept HF5.out (fun hh => hh) (fun hh => hh), HF4.out.trans HF5.out (fun _ _ hh => hh)⟩
      case round =>
        obtain ⟨k, hk, rfl, hde, hdo, hfr⟩ := hrel
        have HDE : Hid (DeAt wr bd gd 1 vb knownOut (knownD k)) := hde
        have HDO5 : Hid (DoAt wr bc gc 1 (knownC 256).x) := hdo
        have HFR : Hid (Fr (fun _ => False) w1 wr) := hfr
        clear hde hdo hfr
        by_cases hlt : k < 256
        · go_wp2_with fail
          refine (get_any wr bd gd 1 vb knownOut (knownD k) HDE.out (knownD_ok k hk).1 (by rw [(knownD_ok k hk).2.1]; omega) 0 (by omega)).mono ?_
          rw [knownAll.1 k hlt]
          rintro e w6 ⟨rfl, hc6, hs6⟩
          have hz := HZ.out
          have ht := HT.out
          have hz3 := HF3.out.size
          have HE : Hid (DeAt w6 bd gd 1 vb knownOut (knownD (k + 1)) ∧ DoAt w6 bc gc 1 (knownC 256).x ∧ Fr (fun _ => False) w1 w6) := ⟨hc6, HDO5.out.kept hs6 (by omega) (by omega), HFR.out.trans hs6 (fun i hi e => by omega)⟩
          clear hc6 hs6 hz ht hz3
          have cb := HIN.out w6 HE.out.2.2 (k / 8) (by omega)
          obtain ⟨v, HV⟩ : ∃ v, Hid (v = knownIn.getD (k / 8) 0) := ⟨_, rfl⟩
          rw [← HV.out] at cb
          obtain ⟨s, HS⟩ : ∃ s, Hid (s = 7 - k % 8) := ⟨_, rfl⟩
          have hs : (7 : Int) - (k : Int) % 8 = (s : Int) := by rw [HS.out]; omega
          have hs8 : s < 8 := by rw [HS.out]; omega
          obtain ⟨bit, HBIT⟩ : ∃ bit, Hid (bit = knownBit k) := ⟨_, rfl⟩
          have hbit : bit < 2 := by rw [HBIT.out]; exact Nat.mod_lt _ (by decide)
          have hand : bits BinOp.and IntKind.u8 ((v : Int) / 2 ^ s) 1 = (bit : Int) := by
            rw [known_bit v s (by rw [HV.out]; exact knownIn_lt _), HBIT.out, knownBit, ← HV.out, ← HS.out]
          rw [← HBIT.out]
          have hbn : ((bit : Int) != (bit : Int)) = false := by simp
          go_wp2_with fail
          refine ⟨⟨k + 1, by omega, congrArg (Value.int .i64) (by omega), HE.out⟩, by simp [intOf]; omega⟩
        · have hk2 : k = 256 := by omega
          subst hk2
          have HSA : Hid (∀ w', Fr (fun _ => False) wr w' → Calls Try.prog 16 #[.pointer (some ⟨bc, 0, none⟩)] w' fun e w'' => ∃ g, e = .returned (.slice (some ⟨g, 0, none⟩) 1 1) ∧ SeenAt w'' (.slice (some ⟨g, 0, none⟩) 1 1) (knownC 256).x ∧ Fr (fun _ => False) w' w'') := by
            intro w' f
            have hd := HDO5.out.kept f (fun hh => hh) (fun hh => hh)
            obtain ⟨v1, v2, v3, v4, v5, hb⟩ := hd.blk
            have ok := knownC_ok 256 (by decide)
            refine (states_at w' bc gc 1 _ ok.1.pos ok.1.lim (cell_of_seven hb).1 hd.xs).mono ?_
            rintro e w'' ⟨g, rfl, ho, f2, _⟩
            refine ⟨g, by rw [ok.2.2], ?_, f2⟩
            have := SeenAt.of_row ho (by have := ok.1.lim; omega)
            rw [ok.2.2] at this
            exact this
          have HSB : Hid (∀ w', Fr (fun _ => False) wr w' → Calls Try.prog 16 #[.pointer (some ⟨bd, 0, none⟩)] w' fun e w'' => ∃ g, e = .returned (.slice (some ⟨g, 0, none⟩) 1 1) ∧ SeenAt w'' (.slice (some ⟨g, 0, none⟩) 1 1) (knownC 256).x ∧ Fr (fun _ => False) w' w'') := by
            intro w' f
            have hd := HDE.out.keptAll f
            have ok := knownD_ok 256 (by decide)
            refine (states_at w' bd gd 1 _ ok.1.pos ok.1.lim (cell_of_seven hd.blk).1 hd.xs).mono ?_
            rintro e w'' ⟨g, rfl, ho, f2, _⟩
            refine ⟨g, by rw [ok.2.2], ?_, f2⟩
            have := SeenAt.of_row ho (by have := ok.1.lim; omega)
            rw [ok.2.2, knownAll.2] at this
            exact this
          have HE2 : Hid (∀ (w' : World) (ga gb : Nat), SeenAt w' (.slice (some ⟨ga, 0, none⟩) 1 1) (knownC 256).x → SeenAt w' (.slice (some ⟨gb, 0, none⟩) 1 1) (knownC 256).x → Calls Try.prog 14 #[.slice (some ⟨ga, 0, none⟩) 1 1, .slice (some ⟨gb, 0, none⟩) 1 1] w' fun e w'' => e = .returned (.bool true) ∧ Fr (fun _ => False) w' w'') := by
            intro w' ga gb s1 s2
            refine (eq_any _ _ _ _ w' s1 s2).mono ?_
            rintro e w'' ⟨rfl, q, rfl⟩
            exact ⟨by rw [decide_eq_true rfl], (Fr.refl _ _).drewN q⟩
          have c5 := HIN.out wr HFR.out 0 (by decide)
          have HKP : Hid (∀ w', Fr (fun _ => False) wr w' → w'.cell? ⟨g1, 0, none⟩ = some (.int .u8 (knownIn.getD 0 0 : Nat))) := fun w' f => f.cell c5 (fun hh => hh)
          go_wp2_with fail
          go_region_held3 (fun w' => w'.cell? ⟨g1, 0, none⟩ = some (.int .u8 (knownIn.getD 0 0 : Nat))) (exact HKP.out _ (by repeat (first | with_reducible exact Fr.refl _ _ | with_reducible refine Fr.drew ?_ | with_reducible refine Fr.trans ?_ hf10 (fun _ _ hh => hh) | with_reducible refine Fr.trans ?_ hf9 (fun _ _ hh => hh) | with_reducible refine Fr.trans ?_ hf8 (fun _ _ hh => hh) | with_reducible refine Fr.trans ?_ hf7 (fun _ _ hh => hh)))) (first | (go_at_call 17; refine (wakes_any _).mono ?_; rintro e w10 ⟨rfl, hf10⟩) | (go_at_call 14; refine (HE2.out _ ga gb (sa.kept hf8 (fun _ _ hh => hh)) sb).mono ?_; rintro e w9 ⟨rfl, hf9⟩) | (go_at_call 16; (have _ := hf7); refine (HSB.out _ (by with_reducible exact (((Fr.refl (fun _ => False) wr).drew).trans hf7 (fun _ _ hh => hh)))).mono ?_; rintro e w8 ⟨gb, rfl, sb, hf8⟩) | (go_at_call 16; refine (HSA.out _ (by with_reducible exact ((Fr.refl (fun _ => False) wr).drew))).mono ?_; rintro e w7 ⟨ga, rfl, sa, hf7⟩))
          go_wp2_with fail
          go_ret
          exact ⟨rfl, (((((HF1.out.trans HFR.out (fun _ _ hh => hh)).drew).trans hf7 (fun _ _ hh => hh)).trans hf8 (fun _ _ hh => hh)).trans hf9 (fun _ _ hh => hh)).trans hf10 (fun _ _ hh => hh)⟩

end Go.Proofs.Ytdbblgceeclpaaa
