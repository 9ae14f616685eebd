/- 'Turn' by pixels. -/
import Derived.Test.YtflhbmapikdmhaaDoorTz
import Derived.Test.YtflhbmapikdmhaaDoorMove
import Derived.Deep.RegionHeld3
namespace Go.Proofs.YtflhbmapikdmhaaDoor
open Go.RowKit

def turnPix (H : Nat) (P : Nat → Nat → Bool) : Nat → Nat → Bool := fun a e => P e (H - 1 - a)
/-- What is drawn: all rows ahead of y, of row y the words ahead of k, of word k what is not left in word. -/
def tp (H : Nat) (P : Nat → Nat → Bool) (y k word : Nat) : Nat → Nat → Bool := fun a e => P e (H - 1 - a) && (decide (H - 1 - a < y) || (decide (H - 1 - a = y) && (decide (e / 64 < k) || (decide (e / 64 = k) && !word.testBit (63 - e % 64)))))
def tq (H : Nat) (P : Nat → Nat → Bool) (y k : Nat) : Nat → Nat → Bool := fun a e => P e (H - 1 - a) && (decide (H - 1 - a < y) || (decide (H - 1 - a = y) && decide (e / 64 < k)))

theorem tq_tp (W H : Nat) (P : Nat → Nat → Bool) (y k : Nat) : ∀ a e, a < H → e < W → tq H P y k a e = tp H P y k (wd W P y k) a e := by
  intro a e ha he
  unfold tq tp
  by_cases h1 : H - 1 - a = y
  · by_cases h2 : e / 64 = k
    · have hb : (wd W P y k).testBit (63 - e % 64) = P e y := by rw [← h2]; exact pix_wd P he
      rw [h1, hb]
      cases P e y <;> simp [h2]
    · simp [h2]
  · simp [h1]
theorem tp_tq (H : Nat) (P : Nat → Nat → Bool) (y k : Nat) : tp H P y k 0 = tq H P y (k + 1) := by
  funext a e
  unfold tq tp
  congr 2
  congr 1
  rw [Nat.zero_testBit, Bool.not_false, Bool.and_true, ← Bool.decide_or, decide_eq_decide]
  omega
theorem tq_next (W H : Nat) (P : Nat → Nat → Bool) (y : Nat) : ∀ a e, a < H → e < W → tq H P y (stride W) a e = tq H P (y + 1) 0 a e := by
  intro a e ha he
  unfold tq
  congr 1
  have : e / 64 < stride W := by unfold stride; omega
  rw [← Bool.decide_and, ← Bool.decide_and, ← Bool.decide_or, ← Bool.decide_or, decide_eq_decide]
  omega
theorem tq_start (H : Nat) (P : Nat → Nat → Bool) : tq H P 0 0 = fun _ _ => false := by
  funext a e; unfold tq; simp
theorem tq_end (H : Nat) (P : Nat → Nat → Bool) : ∀ a e, a < H → tq H P H 0 a e = turnPix H P a e := by
  intro a e ha
  unfold tq turnPix
  rw [decide_eq_true (show H - 1 - a < H by omega)]; simp

theorem tp_step (W H : Nat) (P : Nat → Nat → Bool) (y k word x : Nat) (h1 : 0 < word) (h2 : word < 18446744073709551616) (hw : ∀ i, word.testBit i = true → (wd W P y k).testBit i = true) (hx : x = 64 * k + 63 - tz 64 word) (hy : y < H) :
    x < W ∧ ∀ a e, a < H → e < W → laidAll (tp H P y k word) x (H - 1 - y) 1 (fun _ => decide (1 = 1)) a e = tp H P y k (word &&& (word - 1)) a e := by
  obtain ⟨t1, t2⟩ := tz_set word h1 h2
  have hb := hw _ t1
  unfold wd at hb
  have h63 : tz 64 word = 63 - (63 - tz 64 word) := by omega
  rw [h63, bit_wordOf _ _ (by omega)] at hb
  simp only [Bool.and_eq_true, decide_eq_true_eq] at hb
  obtain ⟨hb1, hb2⟩ := hb
  have hxx : 64 * k + (63 - tz 64 word) = x := by omega
  rw [hxx] at hb1 hb2
  refine ⟨hb1, fun a e ha he => ?_⟩
  unfold laidAll
  by_cases h : e = x ∧ H - 1 - y ≤ a ∧ a < H - 1 - y + 1
  · rw [if_pos h]
    obtain ⟨rfl, h3, h4⟩ := h
    have ea : H - 1 - a = y := by omega
    unfold tp
    rw [ea, hb2, clear_bit word h1 h2]
    have e1 : e / 64 = k := by omega
    have e2 : 63 - e % 64 = tz 64 word := by omega
    rw [e2]
    simp [e1]
  · rw [if_neg h]
    unfold tp
    congr 2
    by_cases h5 : H - 1 - a = y
    · congr 1
      congr 1
      by_cases h6 : e / 64 = k
      · congr 1
        rw [clear_bit word h1 h2]
        have : 63 - e % 64 ≠ tz 64 word := fun h7 => h ⟨by omega, by omega, by omega⟩
        simp [this]
      · simp [h6]
    · simp [h5]

theorem and_pred_lt (x : Nat) (h : 0 < x) : x &&& (x - 1) < x := Nat.lt_of_le_of_lt Nat.and_le_right (by omega)

set_option maxRecDepth 100000 in
set_option maxHeartbeats 2000000 in
theorem turn_any (b g cap W H : Nat) (P : Nat → Nat → Bool) (w : World) (h : MapAt w b g cap W H P) (hT : Tab w) (h0 : 0 < w.heap.size) :
    Calls Tryd.prog 16 #[.pointer (some ⟨b, 0, none⟩)] w fun e w' => ∃ b2 g2, e = .returned (.pointer (some ⟨b2, 0, none⟩)) ∧ NewMap w w' b2 g2 (W * stride H) H W (turnPix H P) := by
  obtain ⟨f1, f2, f3⟩ := size_facts h.wpos h.hpos h.area
  have HSZ : Hid (1 ≤ W ∧ 1 ≤ H ∧ H * W ≤ 1048576) := ⟨h.wpos, h.hpos, by rw [Nat.mul_comm]; exact h.area⟩
  have HM : Hid (∀ w', Fr (fun _ => False) w w' → MapAt w' b g cap W H P) := fun w' hf => h.kept hf (fun x => x) (fun x => x)
  have HTB : Hid (∀ w', Fr (fun _ => False) w w' → Tab w') := fun w' hf => hT.kept hf h0 (fun x => x)
  have HC : Hid (∀ w', Fr (fun _ => False) w w' → w'.cell? ⟨b, 0, none⟩ = some (.int .i64 W) ∧ w'.cell? ⟨b, 1, none⟩ = some (.int .i64 H)) := fun w' hf => by
    obtain ⟨c0, c1, _⟩ := cell_of_four (h.kept hf (fun x => x) (fun x => x)).blk
    exact ⟨c0, c1⟩
  have hS : 0 < stride W := by have := h.wpos; unfold stride; omega
  have hs64 : W ≤ 64 * stride W ∧ 64 * stride W < W + 64 := by unfold stride; omega
  clear h hT
  go_enter Tryd.func16, Tryd.ntmps16
  go_wp2_with fail
  go_region_held3 (fun w' => w'.cell? ⟨b, 0, none⟩ = some (.int .i64 W) ∧ w'.cell? ⟨b, 1, none⟩ = some (.int .i64 H)) (first | exact HC.out _ ((Fr.refl _ _).drew) | exact HC.out _ (((Fr.refl _ _).drew).trans hn1.fr (fun _ _ hh => hh))) (first | (go_at_call 44; refine (white_any H W _ HSZ.out.2.1 HSZ.out.1 HSZ.out.2.2).mono ?_; rintro e w1 ⟨b2, g2, rfl, hn1⟩))
  have HF1 : Hid (Fr (fun _ => False) w w1) := ((Fr.refl _ _).drew).trans hn1.fr (fun _ _ hh => hh)
  have HM1 : Hid (MapAt w1 b2 g2 (W * stride H) H W (tq H P 0 0)) := by rw [tq_start]; exact hn1.at_
  have HNN : Hid (w.heap.size ≤ b2 ∧ w.heap.size ≤ g2 ∧ b2 < w1.heap.size ∧ g2 < w1.heap.size) := ⟨hn1.nb, hn1.ng, hn1.at_.lt, hn1.at_.glt⟩
  clear hn1
  have HK : Hid (∀ w', Fr (fun i => i = g2) w1 w' → Fr (fun _ => False) w w') := fun w' hf => HF1.out.trans hf (fun i hi e => by have := HNN.out; omega)
  obtain ⟨c0, c1⟩ := HC.out w1 HF1.out
  go_wp2_with fail
  go_loopw [22, 4, 5, 6, 7, 8] (fun i _ _ _ _ _ wr => ∃ y : Nat, y ≤ H ∧ i = .int .i64 y ∧ MapAt wr b2 g2 (W * stride H) H W (tq H P y 0) ∧ Fr (fun i => i = g2) w1 wr) (fun i _ _ _ _ _ _ => H - (intOf i).toNat)
  case atStart => exact ⟨0, Nat.zero_le _, rfl, HM1.out, Fr.refl _ _⟩
  case round =>
    obtain ⟨y, hy, rfl, hm, hfr⟩ := hrel
    have HMr : Hid (MapAt wr b2 g2 (W * stride H) H W (tq H P y 0)) := hm
    have HFr : Hid (Fr (fun i => i = g2) w1 wr) := hfr
    clear hm hfr c0 c1
    obtain ⟨_, c1⟩ := HC.out wr (HK.out wr HFr.out)
    by_cases hlt : y < H
    · obtain ⟨tt, htt⟩ : ∃ tt : Nat, tt = H - 1 - y := ⟨_, rfl⟩
      have g1 : (H : Int) - 1 - (y : Int) = (tt : Int) := by omega
      obtain ⟨wa, hwa⟩ : ∃ wa, wa = wr.alloc (.cells #[.int .i64 0, .int .i64 tt, .int .i64 1] 63) := ⟨_, rfl⟩
      have hfa : Fr (fun _ => False) wr wa := by rw [hwa]; exact (Fr.refl _ _).alloc _
      have HBa : Hid (wa.heap[wr.heap.size]? = some (.cells #[.int .i64 0, .int .i64 tt, .int .i64 1] 63 (0, 0))) := by show _ = _; rw [hwa]; exact heap_alloc_new _ _
      have HMa : Hid (MapAt wa b2 g2 (W * stride H) H W (tq H P y 0)) := HMr.out.kept hfa (fun x => x) (fun x => x)
      have HFa : Hid (Fr (fun i => i = g2) w1 wa) := HFr.out.trans hfa (fun _ _ hh => hh.elim)
      have hsr := HFr.out.size
      have HTT : Hid (tt = H - 1 - y) := htt
      clear hfa htt
      have HR0 : Hid (Calls Tryd.prog 34 #[.pointer (some ⟨b, 0, none⟩), .int .i64 y] wa fun e w'' => e = .returned (.slice (some ⟨g, y * stride W, none⟩) (stride W) (stride W)) ∧ ∃ q, w'' = wa.drewN q) := row_any b g cap W H P y wa (HM.out wa (HK.out wa HFa.out)) hlt
      go_wp2_with fail
      rw [← hwa]
      clear hwa
      refine HR0.out.mono ?_
      rintro e w5 ⟨rfl, q5, rfl⟩
      have HB5 : Hid ((wa.drewN q5).heap[wr.heap.size]? = some (.cells #[.int .i64 0, .int .i64 tt, .int .i64 1] 63 (0, 0))) := HBa.out
      have HM5 : Hid (MapAt (wa.drewN q5) b2 g2 (W * stride H) H W (tq H P y 0)) := HMa.out.drewN q5
      have HF5 : Hid (Fr (fun i => i = g2) w1 (wa.drewN q5)) := HFa.out.drewN q5
      obtain ⟨o, ho⟩ : ∃ o, o = wr.heap.size := ⟨_, rfl⟩
      rw [← ho] at HB5 hsr ⊢
      clear ho HBa HMa HFa HR0 HMr HFr
      generalize wa.drewN q5 = w5 at *
      have HBX : Hid (∀ w', Fr (fun i => i = g2) w5 w' → w'.cell? ⟨o, 0, none⟩ = some (.int .i64 0) ∧ w'.cell? ⟨o, 1, none⟩ = some (.int .i64 tt) ∧ w'.cell? ⟨o, 2, none⟩ = some (.int .i64 1)) := fun w' hf => by
        have q := HNN.out
        have e1 : w'.heap[o]? = some (.cells #[.int .i64 0, .int .i64 tt, .int .i64 1] 63 (0, 0)) := (hf.block _ (lt_of_block HB5.out) (by omega)).trans HB5.out
        obtain ⟨y0, y1, y2, _⟩ := cell_of_three e1
        exact ⟨y0, y1, y2⟩
      go_wp2_with fail
      go_loopw [37, 6, 7, 8] (fun i _ _ _ wi => ∃ k : Nat, k ≤ stride W ∧ i = .int .i64 k ∧ MapAt wi b2 g2 (W * stride H) H W (tq H P y k) ∧ Fr (fun i => i = g2) w5 wi) (fun i _ _ _ _ => stride W - (intOf i).toNat)
      case atStart => exact ⟨0, Nat.zero_le _, rfl, HM5.out, Fr.refl _ _⟩
      case round =>
        obtain ⟨k, hk, rfl, hm, hfr⟩ := hrel
        have HMi : Hid (MapAt wr b2 g2 (W * stride H) H W (tq H P y k)) := hm
        have HFi : Hid (Fr (fun i => i = g2) w5 wr) := hfr
        clear hm hfr
        by_cases hkt : k < stride W
        · have hcw := (HM.out wr (HK.out wr (HF5.out.trans HFi.out (fun _ _ hh => hh)))).word (y := y) (j := k) hlt hkt
          have hwl := wd_lt W P y k
          have HM6 : Hid (MapAt wr b2 g2 (W * stride H) H W (tp H P y k (wd W P y k))) := HMi.out.pix (tq_tp W H P y k)
          obtain ⟨D, hD⟩ : ∃ D, D = wd W P y k := ⟨_, rfl⟩
          rw [← hD] at hcw hwl HM6
          have HD : Hid (D = wd W P y k) := hD
          clear hD
          go_wp2_with fail
          go_loopw [7, 8] (fun v _ wj => ∃ word : Nat, v = .int .u64 (word : Int) ∧ Hid (word < 18446744073709551616 ∧ ∀ i, word.testBit i = true → D.testBit i = true) ∧ MapAt wj b2 g2 (W * stride H) H W (tp H P y k word) ∧ Fr (fun i => i = g2) w5 wj) (fun v _ _ => (intOf v).toNat)
          case atStart => exact ⟨D, rfl, ⟨hwl, fun _ h => h⟩, HM6.out, HFi.out⟩
          case round =>
            obtain ⟨word, rfl, hw, hm, hfr⟩ := hrel
            have HW : Hid (word < 18446744073709551616 ∧ ∀ i, word.testBit i = true → D.testBit i = true) := hw
            have HMj : Hid (MapAt wr b2 g2 (W * stride H) H W (tp H P y k word)) := hm
            have HFj : Hid (Fr (fun i => i = g2) w5 wr) := hfr
            clear hm hfr hw
            by_cases hz : word = 0
            · have hne : ((word : Int) != 0) = false := by simp [hz]
              have HMn : Hid (MapAt wr b2 g2 (W * stride H) H W (tq H P y (k + 1))) := by rw [← tp_tq]; have := HMj.out; rw [hz] at this; exact this
              clear hz
              go_wp2_with fail
              go_roundw
              case rel => exact ⟨k + 1, by omega, congrArg (Value.int .i64) (by omega), HMn.out, HFj.out⟩
              case measure => simp [intOf]; omega
            · have hpos : 0 < word := by omega
              have hne : ((word : Int) != 0) = true := by rw [bne_iff_ne]; omega
              have htz := (tz_set word hpos HW.out.1).2
              obtain ⟨x, hx⟩ : ∃ x, x = 64 * k + 63 - tz 64 word := ⟨_, rfl⟩
              have hst := tp_step W H P y k word x hpos HW.out.1 (fun i hi => by rw [← HD.out]; exact HW.out.2 i hi) hx hlt
              have hxW := hst.1
              have HST : Hid (∀ a e, a < H → e < W → laidAll (tp H P y k word) x tt 1 (fun _ => decide (1 = 1)) a e = tp H P y k (word &&& (word - 1)) a e) := by rw [HTT.out]; exact hst.2
              have HTZ : Hid (Calls Tryd.prog 49 #[.int .u64 (word : Int)] wr fun e w' => e = .returned (.int .i64 (tz 64 word : Nat)) ∧ w' = wr) := tz_any word wr hpos HW.out.1 (HTB.out wr (HK.out wr (HF5.out.trans HFj.out (fun _ _ hh => hh))))
              obtain ⟨nw, hnw⟩ : ∃ nw, nw = word &&& (word - 1) := ⟨_, rfl⟩
              have HNW : Hid (nw < 18446744073709551616 ∧ (∀ i, nw.testBit i = true → D.testBit i = true) ∧ nw < word) := by
                refine ⟨by have := and_pred_lt word hpos; have := HW.out.1; omega, fun i hi => ?_, by rw [hnw]; exact and_pred_lt word hpos⟩
                rw [hnw, Nat.testBit_and] at hi
                exact HW.out.2 i (by simp at hi; exact hi.1)
              have k1 : bits .and .u64 (word : Int) ((word : Int) - 1) = (nw : Int) := by
                rw [hnw, show (word : Int) - 1 = ((word - 1 : Nat) : Int) from by omega]
                exact u64_and_nat word (word - 1) HW.out.1 (by have := HW.out.1; omega)
              rw [← hnw] at HST
              have hwb := HW.out.1
              have HRT : Hid (∀ w', MapAt w' b2 g2 (W * stride H) H W (tp H P y k word) → Calls Tryd.prog 34 #[.pointer (some ⟨b2, 0, none⟩), .int .i64 x] w' fun e w'' => e = .returned (.slice (some ⟨g2, x * stride H, none⟩) (stride H) (stride H)) ∧ ∃ q, w'' = w'.drewN q) := fun w' hm => row_any b2 g2 (W * stride H) H W (tp H P y k word) x w' hm hxW
              have HPA : Hid (∀ w', MapAt w' b2 g2 (W * stride H) H W (tp H P y k word) → Calls Tryd.prog 33 #[.slice (some ⟨g2, x * stride H, none⟩) (stride H) (stride H), .agg #[.int .i64 0, .int .i64 tt, .int .i64 1], .int .i64 1] w' fun e w'' => e = .returned (.tuple #[]) ∧ MapAt w'' b2 g2 (W * stride H) H W (tp H P y k nw) ∧ Fr (fun i => i = g2) w' w'') := fun w' hm => by
                have ht := HTT.out
                refine (paint_any b2 g2 (W * stride H) H W (tp H P y k word) x tt 1 1 0 w' hm hxW (by omega) (by omega)).mono ?_
                rintro e w'' ⟨he, hm2, hf⟩
                exact ⟨he, hm2.pix HST.out, hf⟩
              generalize tz 64 word = tzw at *
              have g2' : ((k : Int) + 1) * 64 - 1 - (tzw : Int) = (x : Int) := by omega
              clear hst hnw hx hz
              go_wp2_with fail
              refine HTZ.out.mono ?_
              rintro e w6 ⟨rfl, rfl⟩
              go_wp2_with fail
              have HKC : Hid (∀ w', Fr (fun i => i = g2) w6 w' → w'.cell? ⟨o, 0, none⟩ = some (.int .i64 0) ∧ w'.cell? ⟨o, 1, none⟩ = some (.int .i64 tt) ∧ w'.cell? ⟨o, 2, none⟩ = some (.int .i64 1)) := fun w' hf => HBX.out w' (HFj.out.trans hf (fun _ _ hh => hh))
              go_region_held3 (fun w' => w'.cell? ⟨o, 0, none⟩ = some (.int .i64 0) ∧ w'.cell? ⟨o, 1, none⟩ = some (.int .i64 tt) ∧ w'.cell? ⟨o, 2, none⟩ = some (.int .i64 1)) (first | exact HKC.out _ ((Fr.refl _ _).drew) | exact HKC.out _ ((Fr.refl _ _).drewN _) | exact HKC.out _ (((Fr.refl _ _).drewN _).trans hf8 (fun _ _ hh => hh))) (first | (go_at_call 34; refine (HRT.out _ (HMj.out.kept ((Fr.refl (fun _ => False) _).drew) (fun x => x) (fun x => x))).mono ?_; rintro e w7 ⟨rfl, q7, rfl⟩) | (go_at_call 33; refine (HPA.out _ (HMj.out.drewN _)).mono ?_; rintro e w8 ⟨rfl, hm8, hf8⟩))
              have HM8 : Hid (MapAt w8 b2 g2 (W * stride H) H W (tp H P y k nw)) := hm8
              have HF8 : Hid (Fr (fun i => i = g2) w5 w8) := (HFj.out.drewN _).trans hf8 (fun _ _ hh => hh)
              clear hm8 hf8
              go_wp2_with fail
              go_roundw
              case rel => exact ⟨nw, rfl, ⟨HNW.out.1, HNW.out.2.1⟩, HM8.out, HF8.out⟩
              case measure => have := HNW.out.2.2; simp [intOf]; omega
        · have hkn : k = stride W := by omega
          subst hkn
          have HMn : Hid (MapAt wr b2 g2 (W * stride H) H W (tq H P (y + 1) 0)) := HMi.out.pix (tq_next W H P y)
          have HFn : Hid (Fr (fun i => i = g2) w1 wr) := HF5.out.trans HFi.out (fun _ _ hh => hh)
          go_wp2_with fail
          go_roundw
          case rel => exact ⟨y + 1, by omega, congrArg (Value.int .i64) (by omega), HMn.out, HFn.out⟩
          case measure => simp [intOf]; omega
    · have hyn : y = H := by omega
      subst hyn
      go_wp2_with fail
      go_ret
      have q := HNN.out
      exact ⟨b2, g2, rfl, HMr.out.pix (fun a e ha _ => tq_end y P a e ha), HK.out wr HFr.out, q.1, q.2.1⟩

end Go.Proofs.YtflhbmapikdmhaaDoor
