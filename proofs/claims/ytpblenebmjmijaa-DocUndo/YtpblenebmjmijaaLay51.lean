/- 'lay' by function 51: pixels of a line are laid onto a row of a map. -/
import Derived.Test.YtpblenebmjmijaaLine
namespace Go.Proofs.Ytpblenebmjmijaa
open Go.RowKit

set_option maxRecDepth 100000 in
set_option maxHeartbeats 600000 in
theorem lay_51 (opw : Nat → Nat → Nat) (opb : Bool → Bool → Bool) (hop : IsOp 60 opw opb) (b g cap W H : Nat) (P : Nat → Nat → Bool) (y fr to n gl L : Nat) (l : List Nat) (w : World) (h : MapAt w b g cap W H P) (hl : LineAt w gl l) (hL : l.length = L) (hgl : gl ≠ g) (hy : y < H) (ht : to + n ≤ W) (hfr : fr ≤ 1048576) (hroom : (fr + n + 63) / 64 + 2 ≤ L) (hLb : L ≤ 1048580) :
    Calls Try.prog 63 #[.slice (some ⟨g, y * stride W, none⟩) (stride W) (stride W), .slice (some ⟨gl, 0, none⟩) L L, .agg #[.int .i64 fr, .int .i64 to, .int .i64 n], .func (.func 60) #[] #[]] w fun e w' => e = .returned (.tuple #[]) ∧ MapAt w' b g cap W H (laidAll P y to n fun a => opb (P a y) (linePix l (a - to + fr + 64))) ∧ Fr (fun k => k = g) w w' := by
  have HOP : Hid (IsOp 60 opw opb) := hop
  have HA : Hid (MapAt w b g cap W H P) := h
  have HLN : Hid (LineAt w gl l) := hl
  have HLL : Hid (l.length = L) := hL
  obtain ⟨f1, f2, f3⟩ := size_facts h.wpos h.hpos h.area
  have hgb := h.glt
  have hglb := hl.blk
  have hsb : stride W ≤ 1048576 := by unfold stride; omega
  clear h hop hl hL
  obtain ⟨N, hN⟩ : ∃ N : Nat → Bool, N = fun a => opb (P a y) (linePix l (a - to + fr + 64)) := ⟨_, rfl⟩
  rw [← hN]
  have HN : Hid (N = fun a => opb (P a y) (linePix l (a - to + fr + 64))) := hN
  clear hN
  obtain ⟨st, hst⟩ : ∃ st : Nat, st = fr + 64 - to % 64 := ⟨_, rfl⟩
  have hst1 : (fr : Int) - (to : Int) % 64 + 64 = (st : Int) := by omega
  have hst2 : (st : Int) < 2097152 := by omega
  have HST : Hid (st = fr + 64 - to % 64) := hst
  clear hst
  go_enter Try.func63, Try.ntmps63
  go_wp2_with fail
  refine (wordsOf_any fr to n _ (by omega) (by omega)).mono ?_
  rintro e w1 ⟨rfl, hf1⟩
  have hB1 : w1.heap[w.heap.size]? = some (.cells #[.int .i64 fr, .int .i64 to, .int .i64 n] 88 (0, 0)) := by
    rw [hf1.block w.heap.size (by simp) (fun hh => hh)]; exact heap_alloc_new _ _
  obtain ⟨c0, c1, c2, cf⟩ := cell_of_three hB1
  clear hB1 cf
  have HF1 : Hid (Fr (fun _ => False) (w.alloc (.cells #[.int .i64 fr, .int .i64 to, .int .i64 n] 88)) w1) := hf1
  clear hf1
  go_wp2_with fail
  go_loopw [33] (fun i wr => ∃ k : Nat, k ≤ cntW to n ∧ i = .int .i64 k ∧ MapAt wr b g cap W H (laid P y to n N k) ∧ Fr (fun k => k = g) (w.alloc (.cells #[.int .i64 fr, .int .i64 to, .int .i64 n] 88)) wr) (fun i _ => cntW to n - (intOf i).toNat)
  case atStart => exact ⟨0, Nat.zero_le _, rfl, by rw [laid_zero]; exact HA.out.kept (((Fr.refl (fun _ => False) _).alloc _).trans HF1.out (fun _ _ hh => hh)) (fun hh => hh) (fun hh => hh), HF1.out.mono (fun _ _ hh => hh.elim)⟩
  case round =>
    obtain ⟨k, hk, rfl, hat, hfr⟩ := hrel
    have HM : Hid (MapAt wr b g cap W H (laid P y to n N k)) := hat
    have HF : Hid (Fr (fun k => k = g) (w.alloc (.cells #[.int .i64 fr, .int .i64 to, .int .i64 n] 88)) wr) := hfr
    have hB : wr.heap[w.heap.size]? = some (.cells #[.int .i64 fr, .int .i64 to, .int .i64 n] 88 (0, 0)) := by
      rw [hfr.block w.heap.size (by simp) (by omega)]; exact heap_alloc_new _ _
    obtain ⟨d0, d1, d2, df⟩ := cell_of_three hB
    clear hat hfr hB c0 c1 c2 df
    by_cases hlt : k < cntW to n
    · have hin := cnt_in hlt
      have hstr := cnt_stride hlt ht
      have hroomk : st / 64 + k + 1 < L := by
        have h1 : fstW to n = to / 64 := by unfold fstW; rw [if_neg (by omega)]
        have h2 := HST.out
        have h3 := hin.2.2
        rw [h1] at h3
        omega
      have HLK : Hid (LineAt wr gl l) := (HLN.out.kept ((Fr.refl (fun k => k = g) _).alloc _) hgl).kept HF.out hgl
      have a1 := HLK.out.cell (st / 64 + k) (by have := HLL.out; omega)
      have a2 := HLK.out.cell (st / 64 + k + 1) (by have := HLL.out; omega)
      have a1l := HLK.out.lt (st / 64 + k)
      have a2l := HLK.out.lt (st / 64 + k + 1)
      have hc := HM.out.word hy hstr
      rw [laid_wd] at hc
      have hwl : wd W P y (fstW to n + k) < 18446744073709551616 := wd_lt _ _ _ _
      have HS : Hid (∀ (w2 : World) (x : Nat), MapAt w2 b g cap W H (laid P y to n N k) → x < 18446744073709551616 → (∀ i, i < 64 → x.testBit (63 - i) = if to ≤ 64 * (fstW to n + k) + i ∧ 64 * (fstW to n + k) + i < to + n then N (64 * (fstW to n + k) + i) else (wd W P y (fstW to n + k)).testBit (63 - i)) → MapAt (w2.setCell ⟨g, y * stride W + (fstW to n + k), none⟩ (.int .u64 (x : Int))) b g cap W H (laid P y to n N (k + 1))) := fun w2 x a b c => a.step hlt ht hy b c
      have HNB : Hid (∀ i, i < 64 → to ≤ 64 * (fstW to n + k) + i ∧ 64 * (fstW to n + k) + i < to + n → N (64 * (fstW to n + k) + i) = opb ((wd W P y (fstW to n + k)).testBit (63 - i)) (((l[st / 64 + k]?.getD 0) * 2 ^ (st % 64) % 18446744073709551616 ||| (l[st / 64 + k + 1]?.getD 0) / 2 ^ (64 - st % 64)).testBit (63 - i))) := by
        intro i hi hs
        rw [HN.out, shift_word _ _ _ _ a2l (Nat.mod_lt _ (by omega)) hi, shift_pix l st k i hi]
        show opb _ _ = _
        have e1 : (wd W P y (fstW to n + k)).testBit (63 - i) = P (64 * (fstW to n + k) + i) y := by
          unfold wd
          rw [bit_wordOf _ _ hi, decide_eq_true (by omega)]; rfl
        have e2 : 64 * (fstW to n + k) + i - to + fr + 64 = st + 64 * k + i := by
          have h1 : fstW to n = to / 64 := by unfold fstW; rw [if_neg (by omega)]
          have := HST.out
          rw [h1] at hs ⊢
          omega
        rw [e1, e2]
      generalize l[st / 64 + k]?.getD 0 = A1 at *
      generalize l[st / 64 + k + 1]?.getD 0 = A2 at *
      generalize wd W P y (fstW to n + k) = D at *
      obtain ⟨sw, hsw⟩ : ∃ sw, sw = A1 * 2 ^ (st % 64) % 18446744073709551616 ||| A2 / 2 ^ (64 - st % 64) := ⟨_, rfl⟩
      have l1 : A1 * 2 ^ (st % 64) % 18446744073709551616 < 18446744073709551616 := Nat.mod_lt _ (by omega)
      have l2 : A2 / 2 ^ (64 - st % 64) < 18446744073709551616 := Nat.lt_of_le_of_lt (Nat.div_le_self _ _) a2l
      have hswl : sw < 18446744073709551616 := by rw [hsw]; exact Nat.or_lt_two_pow (n := 64) l1 l2
      have r0 : bits .or .u64 (IntKind.u64.wrap ((A1 : Int) * 2 ^ (st % 64))) ((A2 : Int) / 2 ^ (64 - st % 64)) = (sw : Int) := by
        rw [hsw, wrapu64, cast_div_pow, show (18446744073709551616 : Int) = ((18446744073709551616 : Nat) : Int) from rfl, cast_mul_pow]
        exact u64_or_nat _ _ l1 l2
      rw [← hsw] at HNB
      clear hsw l1 l2
      have HRUN : Hid (∀ w : World, Calls Try.prog 60 #[.int .u64 D, .int .u64 sw] w fun e w' => e = .returned (.int .u64 (opw D sw : Nat)) ∧ w' = w) := fun w => HOP.out.run D sw w hwl hswl
      have hol := HOP.out.lt D sw hwl hswl
      have HOB : Hid (∀ i, i < 64 → (opw D sw).testBit i = opb (D.testBit i) (sw.testBit i)) := fun i hi => HOP.out.bit D sw i hwl hswl hi
      generalize opw D sw = O at *
      have HMK : Hid (∀ (w : World) (x : Int), x = ((fstW to n + k : Nat) : Int) → Calls Try.prog 56 #[.agg #[.int .i64 fr, .int .i64 to, .int .i64 n], .int .i64 x] w fun e w' => e = .returned (.int .u64 (spanMask to n (fstW to n + k) : Nat)) ∧ Fr (fun _ => False) w w') := fun w x hx => maskOf_any' fr x to n (fstW to n + k) w hx (by omega) (by omega) hin.2.1 hin.2.2
      have hml := spanMask_lt to n (fstW to n + k)
      have HB : Hid (∀ i, i < 64 → (spanMask to n (fstW to n + k)).testBit (63 - i) = decide (to ≤ 64 * (fstW to n + k) + i ∧ 64 * (fstW to n + k) + i < to + n)) := fun i hi => spanMask_bit _ _ _ _ hi
      generalize spanMask to n (fstW to n + k) = m at *
      have r1 : bits .xor .u64 (D : Int) (O : Int) = ((D ^^^ O : Nat) : Int) := u64_xor_nat D O hwl hol
      have q1 : D ^^^ O < 18446744073709551616 := Nat.xor_lt_two_pow (n := 64) hwl hol
      have r2 : bits .and .u64 ((D ^^^ O : Nat) : Int) (m : Int) = (((D ^^^ O) &&& m : Nat) : Int) := u64_and_nat _ m q1 hml
      have q2 : (D ^^^ O) &&& m < 18446744073709551616 := Nat.lt_of_le_of_lt Nat.and_le_left q1
      have r3 : bits .xor .u64 (D : Int) (((D ^^^ O) &&& m : Nat) : Int) = ((D ^^^ ((D ^^^ O) &&& m) : Nat) : Int) := u64_xor_nat D _ hwl q2
      have q3 : D ^^^ ((D ^^^ O) &&& m) < 18446744073709551616 := Nat.xor_lt_two_pow (n := 64) hwl q2
      have HX : Hid (∀ i, i < 64 → (D ^^^ ((D ^^^ O) &&& m)).testBit (63 - i) = if to ≤ 64 * (fstW to n + k) + i ∧ 64 * (fstW to n + k) + i < to + n then N (64 * (fstW to n + k) + i) else D.testBit (63 - i)) := by
        intro i hi
        rw [Nat.testBit_xor, Nat.testBit_and, Nat.testBit_xor, HB.out i hi]
        by_cases hs : to ≤ 64 * (fstW to n + k) + i ∧ 64 * (fstW to n + k) + i < to + n
        · rw [if_pos hs, decide_eq_true hs, HNB.out i hi hs, ← HOB.out (63 - i) (by omega)]
          cases D.testBit (63 - i) <;> simp
        · rw [if_neg hs, decide_eq_false hs]
          simp
      have HXL : Hid (D ^^^ ((D ^^^ O) &&& m) < 18446744073709551616) := q3
      generalize D ^^^ ((D ^^^ O) &&& m) = X3 at *
      generalize (D ^^^ O) &&& m = X2 at *
      generalize D ^^^ O = X1 at *
      have HD : Hid (∀ w2, Fr (fun k => k = g) wr w2 → w2.cell? ⟨w.heap.size, 0, none⟩ = some (.int .i64 fr) ∧ w2.cell? ⟨w.heap.size, 1, none⟩ = some (.int .i64 to) ∧ w2.cell? ⟨w.heap.size, 2, none⟩ = some (.int .i64 n)) := fun w2 hf => by
        have hbl : w.heap.size < wr.heap.size := by have := HF.out.size; simp at this; omega
        refine ⟨?_, ?_, ?_⟩
        · rw [hf.cell hbl (by omega)]; exact d0
        · rw [hf.cell hbl (by omega)]; exact d1
        · rw [hf.cell hbl (by omega)]; exact d2
      clear HB HNB HOB hin hol q1 q2 q3 hml hswl HOP HA HLN HLL HN HST hroom HLK d0 d1 d2
      go_wp2_with fail
      go_region
      go_wp2_with fail
      have hb1 : (0 : Int) ≤ (fstW to n : Int) + (k : Int) := by omega
      have hb2 : (fstW to n : Int) + (k : Int) < (stride W : Int) := by omega
      have htn : ((fstW to n : Int) + (k : Int)).toNat = fstW to n + k := by omega
      have hwk : IntKind.i64.wrap ((fstW to n : Int) + (k : Int)) = ((fstW to n : Int) + (k : Int)) := by rw [IntKind.wrap_i64]; omega
      have HCX : Hid (wr.cell? ⟨g, y * stride W + (fstW to n + k), none⟩ = some (.int .u64 D)) := hc
      clear a1 a2 a1l a2l hc r0 hroomk hst2 hLb hgb hglb hgl
      go_region_held3 (fun w' => w'.cell? ⟨w.heap.size, 0, none⟩ = some (.int .i64 fr) ∧ w'.cell? ⟨w.heap.size, 1, none⟩ = some (.int .i64 to) ∧ w'.cell? ⟨w.heap.size, 2, none⟩ = some (.int .i64 n)) (first | exact HD.out _ ((Fr.refl _ _).drew.drew) | exact HD.out _ (((Fr.refl _ _).drew.drew).trans hf2 (fun _ _ hh => hh.elim)) | exact HD.out _ ((((Fr.refl (fun k => k = g) wr).drew.drew).trans hf2 (fun _ _ hh => hh.elim)).setCell (p := ⟨g, y * stride W + (fstW to n + k), none⟩) (fun _ => rfl) _)) (first | (go_at_call 56; refine (HMK.out _ _ ?_).mono ?_; (first | omega | (rw [IntKind.wrap_i64]; omega)); rintro e w2 ⟨rfl, hf2⟩; have HM2 : Hid (MapAt w2 b g cap W H (laid P y to n N k)) := HM.out.kept (((Fr.refl (fun _ => False) wr).drew.drew).trans hf2 (fun _ _ hh => hh)) (fun hh => hh) (fun hh => hh); have hcx := HM2.out.word hy hstr; have hfx := HM2.out.own.frozenAt (y * stride W + (fstW to n + k))) | (go_at_call 60; refine (HRUN.out _).mono ?_; rintro e w3 ⟨rfl, rfl⟩))
      have HF2 : Hid (Fr (fun k => k = g) (w.alloc (.cells #[.int .i64 fr, .int .i64 to, .int .i64 n] 88)) w2) := HF.out.drew.drew.trans hf2 (fun _ _ hh => hh.elim)
      go_wp2_with fail
      go_roundw
      case rel => exact ⟨k + 1, by omega, congrArg (Value.int .i64) (by omega), HS.out w2 X3 HM2.out HXL.out HX.out, HF2.out.setCell (fun _ => rfl) _⟩
      case measure => simp [intOf]; omega
    · have hkn : k = cntW to n := by omega
      subst hkn
      go_wp2_with fail
      go_end0
      refine ⟨rfl, by rw [← laid_all]; exact HM.out, ?_⟩
      exact ((Fr.refl (fun k => k = g) w).alloc _).trans HF.out (fun _ _ hh => hh)

end Go.Proofs.Ytpblenebmjmijaa
