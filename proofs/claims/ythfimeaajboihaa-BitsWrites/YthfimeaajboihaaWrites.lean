/- 'BitsWrites', by contracts. -/
import Derived.Test.YthfimeaajboihaaOver
import Derived.Deep.RegionHeld3
namespace Go.Proofs.Ythfimeaajboihaa
open Go.RowKit

/-- The writer and the plain writer, side by side. -/
structure WF (B : Nat) (w0 w : World) (bw : Nat) (v : Value) (bf : Nat) (vf : Value) (most : Nat) (bs cs : List Bool) : Prop where
  ha : OwnW B w0 w bw v most bs
  hf : FAt w bf vf most cs
  fb : B ≤ bf
  fr : ∀ k, vf.ownBlock = some k → B ≤ k

theorem WF.ne {B : Nat} {w0 w : World} {bw bf : Nat} {v vf : Value} {most : Nat} {bs cs : List Bool} (h : WF B w0 w bw v bf vf most bs cs) : bf ≠ bw := by
  intro e
  have h1 := h.hf.blk
  rw [e, h.ha.at_.blk] at h1
  simp at h1

theorem WF.stepW {B : Nat} {w0 w w' : World} {bw bf : Nat} {v vf v' : Value} {most : Nat} {bs cs bs' : List Bool} (h : WF B w0 w bw v bf vf most bs cs) (hat : WAt w' bw v' most bs') (s : WStep bw v v' w w') : WF B w0 w' bw v' bf vf most bs' cs := by
  refine ⟨h.ha.step hat s, h.hf.kept s.fr ?_ ?_, h.fb, h.fr⟩
  · rintro (e | e)
    · exact h.ne e
    · exact row_off h.ha.at_.own h.hf.blk (by omega) e
  · rintro k hk (e | e)
    · exact row_off h.hf.own h.ha.at_.blk (by omega) (by rw [hk, e])
    · exact row_apart h.hf.own h.ha.at_.own (by omega) k hk e

theorem WF.stepF {B : Nat} {w0 w w' : World} {bw bf : Nat} {v vf vf' : Value} {most : Nat} {bs cs cs' : List Bool} (h : WF B w0 w bw v bf vf most bs cs) (hat : FAt w' bf vf' most cs') (s : WStep bf vf vf' w w') : WF B w0 w' bw v bf vf' most bs cs' := by
  have h1 := h.fb
  have h2 := h.fr
  have h3 := h.ha.size
  refine ⟨h.ha.later s.fr ?_ ?_ ?_, hat, h.fb, ?_⟩
  · rintro (e | e)
    · exact h.ne e.symm
    · exact row_off h.hf.own h.ha.at_.blk (by omega) e
  · rintro k hk (e | e)
    · exact row_off h.ha.at_.own h.hf.blk (by omega) (by rw [hk, e])
    · exact row_apart h.ha.at_.own h.hf.own (by omega) k hk e
  · rintro k (e | e)
    · subst e; exact h.fb
    · exact h.fr k e
  · intro k hk
    rcases s.row with r | r
    · exact h2 k (r ▸ hk)
    · have := r k hk; omega

theorem WF.later {B : Nat} {w0 w w' : World} {bw bf : Nat} {v vf : Value} {most : Nat} {bs cs : List Bool} {S : Nat → Prop} (h : WF B w0 w bw v bf vf most bs cs) (f : Fr S w w') (h1 : ∀ k, S k → w.heap.size ≤ k) : WF B w0 w' bw v bf vf most bs cs := by
  have hw := h.ha.at_.lt
  have hwr := h.ha.at_.rowlt
  have hf := h.hf.lt
  have hfr := h.hf.rowlt
  have hs := h.ha.size
  exact ⟨h.ha.later f (fun e => by have := h1 _ e; omega) (fun k hk e => by have := h1 _ e; have := hwr k hk; omega) (fun k e => by have := h1 _ e; omega), h.hf.kept f (fun e => by have := h1 _ e; omega) (fun k hk e => by have := h1 _ e; have := hfr k hk; omega), h.fb, h.fr⟩

set_option maxRecDepth 100000 in
set_option maxHeartbeats 16000000 in
theorem writes_any (mo : Int) (ao : Option Addr) (n cap : Nat) (K : Nat → Int) (N : Nat → Nat) (D : Nat → Int) (w : World) (h : OpsAt w ao n K N D) :
    Calls Try.prog 3 #[.agg #[.int .i64 mo, .slice ao n cap]] w fun e w' => e = .returned (.bool true) ∧ Below w.heap.size w w' := by
  have HOP : Hid (OpsAt w ao n K N D) := h
  clear h
  have hnot : ∀ (x : Bool) (w : World), (Op.unary .not (.bool x)).run Try.prog w = .ok (.bool (!x)) w := fun _ _ => rfl
  go_enter Try.func3, Try.ntmps3
  go_wp2_with fail
  obtain ⟨w1, hw1⟩ : ∃ w1, w1 = w.alloc (.cells #[.int .i64 mo, .slice ao n cap] 24) := ⟨_, rfl⟩
  rw [← hw1]
  have HB1 : Hid (Below w.heap.size w w1) := by rw [hw1]; exact (Below.refl _ _).alloc (Nat.le_refl _) _
  have hs1 : w1.heap.size = w.heap.size + 1 := by rw [hw1]; simp
  have hx1 : w1.heap[w.heap.size]? = some (.cells #[.int .i64 mo, .slice ao n cap] 24 (0, 0)) := by rw [hw1]; exact heap_alloc_new _ _
  have HX : Hid (w1.heap[w.heap.size]? = some (.cells #[.int .i64 mo, .slice ao n cap] 24 (0, 0))) := hx1
  have HOP1 : Hid (OpsAt w1 ao n K N D) := by
    refine ⟨HOP.out.1, fun hn => ?_, HOP.out.2.2⟩
    obtain ⟨b, off, e, hc⟩ := HOP.out.2.1 hn
    exact ⟨b, off, e, fun j hj => ⟨cell_later HB1.out (hc j hj).1, cell_later HB1.out (hc j hj).2.1, cell_later HB1.out (hc j hj).2.2⟩⟩
  have HB : Hid (w.heap.size + 1 = w1.heap.size) := hs1.symm
  obtain ⟨B, hBe⟩ : ∃ B, B = w.heap.size := ⟨_, rfl⟩
  rw [← hBe] at HX HB hx1 ⊢
  have HBE : Hid (B = w.heap.size) := hBe
  clear hw1 HOP hs1 hBe
  by_cases hmo : mo < 0 ∨ 67108864 < mo
  · have HMO : Hid (mo < 0 ∨ 67108864 < mo) := hmo
    obtain ⟨y0, y1, yf⟩ := cell_of_two hx1
    clear hx1
    refine (newW_no mo _ HMO.out).mono ?_
    rintro e w2 ⟨rfl, hw2⟩
    subst hw2
    rcases hmo with hm | hm
    all_goals
      go_wp2_with fail
      refine (wakes_any _).mono ?_
      rintro e w3 ⟨rfl, hb⟩
      have HBf : Hid (Below B w w3) := by
        have h1 := HB1.out
        rw [← HBE.out] at h1
        exact h1.trans (hb.mono (by have := HB.out; omega))
      clear hb
      go_wp2_with fail
      go_ret
      refine ⟨rfl, ?_⟩
      rw [← HBE.out]
      exact HBf.out
  · obtain ⟨most, hm⟩ : ∃ most : Nat, mo = most := ⟨mo.toNat, by omega⟩
    have hml : most ≤ 67108864 := by omega
    subst hm
    clear hmo
    refine (newW_any most _ hml).mono ?_
    rintro e w2 ⟨rfl, hat, hw2⟩
    have HO2 : Hid (OwnW (B + 1) w1 w2 (B + 1) (.slice none 0 0) most []) := by
      rw [HB.out]
      exact ⟨hat, by rw [hw2]; exact (Below.refl _ _).alloc (Nat.le_refl _) _, Nat.le_refl _, fun k hk => by simp [Value.ownBlock] at hk, by rw [hw2]; simp⟩
    have hs2 : w2.heap.size = B + 2 := by rw [hw2]; simp; have := HB.out; omega
    have hx2 : w2.heap[B]? = some (.cells #[.int .i64 (most : Int), .slice ao n cap] 24 (0, 0)) := by rw [HO2.out.bel.block B (by omega)]; exact HX.out
    obtain ⟨y0, y1, yf⟩ := cell_of_two hx2
    rw [← HB.out]
    clear hat hw2 hx1 hx2
    have HS2 : Hid (w2.heap.size = B + 2) := hs2
    have HT3 : Hid (WF (B + 1) w1 (w2.alloc (.cells #[.int .i64 (most : Int), .slice none 0 0] 33)) (B + 1) (.slice none 0 0) (B + 2) (.slice none 0 0) most [] []) :=
      ⟨HO2.out.later ((Fr.refl (fun _ => False) _).alloc _) (fun hh => hh) (fun _ _ hh => hh) (fun _ hh => hh.elim), ⟨by rw [← HS2.out]; exact heap_alloc_new _ _, World.ownsRow_nil _ _ _ _, by simp, hml⟩, by omega, fun k hk => by simp [Value.ownBlock] at hk⟩
    clear HO2
    go_wp2_with fail
    go_loopw [6, 7, 8, 9, 10] (fun i _ _ _ _ wr => ∃ (k : Nat) (v vf : Value) (bs : List Bool), k ≤ n ∧ k ≤ 300 ∧ i = .int .i64 k ∧ WF (B + 1) w1 wr (B + 1) v (B + 2) vf most bs bs) (fun i _ _ _ _ _ => 300 - (intOf i).toNat)
    case atStart => exact ⟨0, .slice none 0 0, .slice none 0 0, [], Nat.zero_le _, Nat.zero_le _, rfl, HT3.out⟩
    case round =>
      obtain ⟨k, v, vf, bs, hk1, hk2, rfl, ht⟩ := hrel
      have HT : Hid (WF (B + 1) w1 wr (B + 1) v (B + 2) vf most bs bs) := ht
      have hnl : n ≤ 9223372036854775807 := HOP1.out.1
      have hbox : wr.heap[B]? = some (.cells #[.int .i64 (most : Int), .slice ao n cap] 24 (0, 0)) := by rw [ht.ha.bel.block B (by omega)]; exact HX.out
      obtain ⟨x0, x1, xf⟩ := cell_of_two hbox
      clear ht HT3 hbox x0 xf y0 y1 yf hs2 HS2
      by_cases hlt : k < n
      · by_cases h300 : k < 300
        · obtain ⟨b, off, rfl, hc⟩ := HOP1.out.2.1 (by omega)
          obtain ⟨e1, e2, e3⟩ := hc k hlt
          have hbl : ∀ j x, w1.cell? ⟨b, j, none⟩ = some x → wr.cell? ⟨b, j, none⟩ = some x := fun j x hx => by
            have hb : b < B + 1 := by rw [HB.out]; exact World.block_lt_of_cell? w1 _ hx
            rw [HT.out.ha.bel.cell (p := ⟨b, j, none⟩) hb]; exact hx
          have g1 := hbl _ _ e1
          have g2 := hbl _ _ e2
          have g3 := hbl _ _ e3
          have hNk : Hid (N k < 18446744073709551616) := (HOP1.out.2.2 k hlt).2.1
          clear hbl e1 e2 e3 hc
          generalize N k = nk at g2 hNk
          generalize D k = dk at g3
          generalize K k = kd at g1
          by_cases hk0 : kd = 0
          · subst hk0
            by_cases hdk : dk < 0 ∨ 64 < dk
            · have HDK : Hid (dk < 0 ∨ 64 < dk) := hdk
              clear hdk
              obtain ⟨w3, hw3⟩ : ∃ w3, w3 = wr.alloc (.cells #[.int .i64 0, .int .u64 nk, .int .i64 dk] 36) := ⟨_, rfl⟩
              have HT3 : Hid (WF (B + 1) w1 w3 (B + 1) v (B + 2) vf most bs bs) := by rw [hw3]; exact HT.out.later ((Fr.refl (fun _ => False) _).alloc _) (fun _ hh => hh.elim)
              have HOB : Hid (w3.heap[wr.heap.size]? = some (.cells #[.int .i64 0, .int .u64 nk, .int .i64 dk] 36 (0, 0)) ∧ wr.heap.size < w3.heap.size) := by rw [hw3]; exact ⟨heap_alloc_new _ _, by simp⟩
              have HLT : Hid ((B + 1) < wr.heap.size ∧ (B + 2) < wr.heap.size ∧ (∀ j, v.ownBlock = some j → j < wr.heap.size) ∧ (∀ j, vf.ownBlock = some j → j < wr.heap.size)) := ⟨HT.out.ha.at_.lt, HT.out.hf.lt, HT.out.ha.at_.rowlt, HT.out.hf.rowlt⟩
              have HW3 : Hid (w3 = wr.alloc (.cells #[.int .i64 0, .int .u64 nk, .int .i64 dk] 36)) := hw3
              clear hw3 HT
              go_wp2_with fail
              rw [← HW3.out]
              obtain ⟨o0, o1, o2, of⟩ := cell_of_three HOB.out.1
              refine (put_width _ _ dk _ HDK.out).mono ?_
              rintro e w4 ⟨rfl, hw4⟩
              have HT4 : Hid (WF (B + 1) w1 w4 (B + 1) v (B + 2) vf most bs bs) := by rw [hw4]; exact HT3.out
              rw [← hw4] at o0 o1 o2
              clear hw4 HT3 of
              go_wp2_with fail
              refine (rput_width _ _ dk _ HDK.out).mono ?_
              rintro e w5 ⟨rfl, hw5⟩
              have HT5 : Hid (WF (B + 1) w1 w5 (B + 1) v (B + 2) vf most bs bs) := by rw [hw5]; exact HT4.out
              clear hw5 HT4 o0 o1 o2 HDK
              obtain ⟨v5, hv5⟩ : ∃ v5, v5 = v := ⟨_, rfl⟩
              rw [← hv5] at HT5
              clear hv5
              obtain ⟨vf5, hv5⟩ : ∃ vf5, vf5 = vf := ⟨_, rfl⟩
              rw [← hv5] at HT5
              clear hv5
              obtain ⟨bs5, hv5⟩ : ∃ bs5, bs5 = bs := ⟨_, rfl⟩
              rw [← hv5] at HT5
              clear hv5
              go_wp2_with fail
              refine (bytes_any (B + 1) v5 most bs5 _ HT5.out.ha.at_).mono ?_
              rintro e w6 ⟨rv, rfl, hrv, hb6⟩
              have HT6 : Hid (WF (B + 1) w1 w6 (B + 1) v5 (B + 2) vf5 most bs5 bs5) := HT5.out.later (Fr.of_below hb6 (fun _ => False)) (fun _ hh => hh.elim)
              have HRV : Hid (BytesAt w6 w5.heap.size rv (pack bs5)) := hrv
              have hls : bs5.length ≤ 8 * most := HT6.out.ha.at_.le
              have hlp : (pack bs5).length ≤ 67108864 := by rw [length_pack]; omega
              have HLP : Hid ((pack bs5).length ≤ 67108864) := hlp
              obtain ⟨fc0, fc1, fcf⟩ := cell_of_two HT6.out.hf.blk
              obtain ⟨fo, fcap, hfv, _⟩ := HT6.out.hf.form
              rw [hfv] at fc1
              have hq1 : ((bs5.length : Int) != (bs5.length : Int)) = false := by simp
              have HF6 : Hid (Fr (fun _ => False) w5 w6) := Fr.of_below hb6 _
              clear hrv hb6 hlp hfv
              go_wp2
              go_region_held3 (fun w' => w'.cell? ⟨B + 2, 1, none⟩ = some (.slice fo bs5.length fcap)) (first | go_keep | (exact cell_later hb8 fc1) | (rw [hw9]; exact cell_later hb8 fc1)) (first | (go_at_call 18; refine (len_any (B + 1) v5 most bs5 _ ?_).mono ?_; exact HT6.out.ha.at_.drew; rintro e w7 ⟨rfl, hw7⟩; subst hw7) | (go_at_call 20; refine (rbytes_any (B + 2) vf5 most bs5 _ ?_).mono ?_; exact HT6.out.hf.drewN 1; rintro e w8 ⟨rv8, rfl, hrv8, hb8⟩) | (go_at_call 19; refine (eq_same rv rv8 (pack bs5) (pack bs5) _ ?_ ?_ rfl true ?_).mono ?_; exact SeenAt.of_row (base := w5.heap.size) (row_kept HRV.out (((Fr.refl (fun _ => False) _).drewN 1).trans (Fr.of_below hb8 (fun _ => False)) (fun _ _ hh => hh)) (fun _ _ hh => hh)) (by have := HLP.out; omega); exact SeenAt.of_row hrv8 (by have := HLP.out; omega); (show true = _; simp); rintro e w9 ⟨rfl, q9, hw9⟩))
              subst hw9
              have HF9 : Hid (Fr (fun _ => False) w6 (w8.drewN q9)) := by
                exact (((Fr.refl (fun _ => False) _).drewN 1).trans (Fr.of_below hb8 (fun _ => False)) (fun _ _ hh => hh)).drewN q9
              have HR9 : Hid ((w8.drewN q9).ownsRow 0 5 1 rv (pack bs5).length (byteCells (pack bs5))) := ownsRow_base (row_kept HRV.out HF9.out (fun _ _ hh => hh)) (fun _ _ => Nat.zero_le _)
              clear hb8 hrv8 fc0 fc1 fcf hq1 HT6
              go_wp2_with fail
              refine (over_any rv (pack bs5).length (byteCells (pack bs5)) _ HR9.out (by have := HLP.out; omega)).mono ?_
              rintro e w10 ⟨rfl, hf10⟩
              have HT10 : Hid (WF (B + 1) w1 w10 (B + 1) v5 (B + 2) vf5 most bs5 bs5) := by
                refine HT5.out.later (S := fun k => rv.ownBlock = some k) (((HF6.out.trans HF9.out (fun _ _ hh => hh)).mono (fun _ _ hh => hh.elim)).trans hf10 (fun _ _ hh => hh)) (fun k hk => (HRV.out.lt k hk).1)
              clear hf10 HR9 HF9 HF6 HRV HT5
              go_wp2_with fail
              go_roundw
              case rel => exact ⟨k + 1, v5, vf5, bs5, by omega, by omega, congrArg (Value.int .i64) (by omega), HT10.out⟩
              case measure => simp [intOf]; omega
            · obtain ⟨wd, hwd⟩ : ∃ wd : Nat, dk = wd := ⟨dk.toNat, by omega⟩
              have hwl : wd ≤ 64 := by omega
              subst hwd
              clear hdk
              by_cases hvl : 2 ^ wd ≤ nk
              · have HVL : Hid (2 ^ wd ≤ nk) := hvl
                have h64 : Hid (wd < 64) := by
                  have h1 := hNk.out
                  rcases Nat.lt_or_ge wd 64 with h | h
                  · exact h
                  · rw [show wd = 64 from by omega] at hvl; omega
                clear hvl
                obtain ⟨w3, hw3⟩ : ∃ w3, w3 = wr.alloc (.cells #[.int .i64 0, .int .u64 nk, .int .i64 (wd : Int)] 36) := ⟨_, rfl⟩
                have HT3 : Hid (WF (B + 1) w1 w3 (B + 1) v (B + 2) vf most bs bs) := by rw [hw3]; exact HT.out.later ((Fr.refl (fun _ => False) _).alloc _) (fun _ hh => hh.elim)
                have HOB : Hid (w3.heap[wr.heap.size]? = some (.cells #[.int .i64 0, .int .u64 nk, .int .i64 (wd : Int)] 36 (0, 0)) ∧ wr.heap.size < w3.heap.size) := by rw [hw3]; exact ⟨heap_alloc_new _ _, by simp⟩
                have HLT : Hid ((B + 1) < wr.heap.size ∧ (B + 2) < wr.heap.size ∧ (∀ j, v.ownBlock = some j → j < wr.heap.size) ∧ (∀ j, vf.ownBlock = some j → j < wr.heap.size)) := ⟨HT.out.ha.at_.lt, HT.out.hf.lt, HT.out.ha.at_.rowlt, HT.out.hf.rowlt⟩
                have HW3 : Hid (w3 = wr.alloc (.cells #[.int .i64 0, .int .u64 nk, .int .i64 (wd : Int)] 36)) := hw3
                clear hw3 HT
                go_wp2_with fail
                rw [← HW3.out]
                obtain ⟨o0, o1, o2, of⟩ := cell_of_three HOB.out.1
                refine (put_value _ nk wd _ hwl HVL.out).mono ?_
                rintro e w4 ⟨rfl, hw4⟩
                have HT4 : Hid (WF (B + 1) w1 w4 (B + 1) v (B + 2) vf most bs bs) := by rw [hw4]; exact HT3.out
                rw [← hw4] at o0 o1 o2
                clear hw4 HT3 of
                go_wp2_with fail
                refine (rput_value _ nk wd _ h64.out HVL.out).mono ?_
                rintro e w5 ⟨rfl, hw5⟩
                have HT5 : Hid (WF (B + 1) w1 w5 (B + 1) v (B + 2) vf most bs bs) := by rw [hw5]; exact HT4.out
                clear hw5 HT4 o0 o1 o2 HVL h64
                obtain ⟨v5, hv5⟩ : ∃ v5, v5 = v := ⟨_, rfl⟩
                rw [← hv5] at HT5
                clear hv5
                obtain ⟨vf5, hv5⟩ : ∃ vf5, vf5 = vf := ⟨_, rfl⟩
                rw [← hv5] at HT5
                clear hv5
                obtain ⟨bs5, hv5⟩ : ∃ bs5, bs5 = bs := ⟨_, rfl⟩
                rw [← hv5] at HT5
                clear hv5
                go_wp2_with fail
                refine (bytes_any (B + 1) v5 most bs5 _ HT5.out.ha.at_).mono ?_
                rintro e w6 ⟨rv, rfl, hrv, hb6⟩
                have HT6 : Hid (WF (B + 1) w1 w6 (B + 1) v5 (B + 2) vf5 most bs5 bs5) := HT5.out.later (Fr.of_below hb6 (fun _ => False)) (fun _ hh => hh.elim)
                have HRV : Hid (BytesAt w6 w5.heap.size rv (pack bs5)) := hrv
                have hls : bs5.length ≤ 8 * most := HT6.out.ha.at_.le
                have hlp : (pack bs5).length ≤ 67108864 := by rw [length_pack]; omega
                have HLP : Hid ((pack bs5).length ≤ 67108864) := hlp
                obtain ⟨fc0, fc1, fcf⟩ := cell_of_two HT6.out.hf.blk
                obtain ⟨fo, fcap, hfv, _⟩ := HT6.out.hf.form
                rw [hfv] at fc1
                have hq1 : ((bs5.length : Int) != (bs5.length : Int)) = false := by simp
                have HF6 : Hid (Fr (fun _ => False) w5 w6) := Fr.of_below hb6 _
                clear hrv hb6 hlp hfv
                go_wp2
                go_region_held3 (fun w' => w'.cell? ⟨B + 2, 1, none⟩ = some (.slice fo bs5.length fcap)) (first | go_keep | (exact cell_later hb8 fc1) | (rw [hw9]; exact cell_later hb8 fc1)) (first | (go_at_call 18; refine (len_any (B + 1) v5 most bs5 _ ?_).mono ?_; exact HT6.out.ha.at_.drew; rintro e w7 ⟨rfl, hw7⟩; subst hw7) | (go_at_call 20; refine (rbytes_any (B + 2) vf5 most bs5 _ ?_).mono ?_; exact HT6.out.hf.drewN 1; rintro e w8 ⟨rv8, rfl, hrv8, hb8⟩) | (go_at_call 19; refine (eq_same rv rv8 (pack bs5) (pack bs5) _ ?_ ?_ rfl true ?_).mono ?_; exact SeenAt.of_row (base := w5.heap.size) (row_kept HRV.out (((Fr.refl (fun _ => False) _).drewN 1).trans (Fr.of_below hb8 (fun _ => False)) (fun _ _ hh => hh)) (fun _ _ hh => hh)) (by have := HLP.out; omega); exact SeenAt.of_row hrv8 (by have := HLP.out; omega); (show true = _; simp); rintro e w9 ⟨rfl, q9, hw9⟩))
                subst hw9
                have HF9 : Hid (Fr (fun _ => False) w6 (w8.drewN q9)) := by
                  exact (((Fr.refl (fun _ => False) _).drewN 1).trans (Fr.of_below hb8 (fun _ => False)) (fun _ _ hh => hh)).drewN q9
                have HR9 : Hid ((w8.drewN q9).ownsRow 0 5 1 rv (pack bs5).length (byteCells (pack bs5))) := ownsRow_base (row_kept HRV.out HF9.out (fun _ _ hh => hh)) (fun _ _ => Nat.zero_le _)
                clear hb8 hrv8 fc0 fc1 fcf hq1 HT6
                go_wp2_with fail
                refine (over_any rv (pack bs5).length (byteCells (pack bs5)) _ HR9.out (by have := HLP.out; omega)).mono ?_
                rintro e w10 ⟨rfl, hf10⟩
                have HT10 : Hid (WF (B + 1) w1 w10 (B + 1) v5 (B + 2) vf5 most bs5 bs5) := by
                  refine HT5.out.later (S := fun k => rv.ownBlock = some k) (((HF6.out.trans HF9.out (fun _ _ hh => hh)).mono (fun _ _ hh => hh.elim)).trans hf10 (fun _ _ hh => hh)) (fun k hk => (HRV.out.lt k hk).1)
                clear hf10 HR9 HF9 HF6 HRV HT5
                go_wp2_with fail
                go_roundw
                case rel => exact ⟨k + 1, v5, vf5, bs5, by omega, by omega, congrArg (Value.int .i64) (by omega), HT10.out⟩
                case measure => simp [intOf]; omega
              · have HVL : Hid (nk < 2 ^ wd) := by show _ < _; omega
                clear hvl
                by_cases hft : bs.length + wd ≤ 8 * most
                · have HFT : Hid (bs.length + wd ≤ 8 * most) := hft
                  clear hft
                  obtain ⟨w3, hw3⟩ : ∃ w3, w3 = wr.alloc (.cells #[.int .i64 0, .int .u64 nk, .int .i64 (wd : Int)] 36) := ⟨_, rfl⟩
                  have HT3 : Hid (WF (B + 1) w1 w3 (B + 1) v (B + 2) vf most bs bs) := by rw [hw3]; exact HT.out.later ((Fr.refl (fun _ => False) _).alloc _) (fun _ hh => hh.elim)
                  have HOB : Hid (w3.heap[wr.heap.size]? = some (.cells #[.int .i64 0, .int .u64 nk, .int .i64 (wd : Int)] 36 (0, 0)) ∧ wr.heap.size < w3.heap.size) := by rw [hw3]; exact ⟨heap_alloc_new _ _, by simp⟩
                  have HLT : Hid ((B + 1) < wr.heap.size ∧ (B + 2) < wr.heap.size ∧ (∀ j, v.ownBlock = some j → j < wr.heap.size) ∧ (∀ j, vf.ownBlock = some j → j < wr.heap.size)) := ⟨HT.out.ha.at_.lt, HT.out.hf.lt, HT.out.ha.at_.rowlt, HT.out.hf.rowlt⟩
                  have HW3 : Hid (w3 = wr.alloc (.cells #[.int .i64 0, .int .u64 nk, .int .i64 (wd : Int)] 36)) := hw3
                  clear hw3 HT
                  go_wp2_with fail
                  rw [← HW3.out]
                  obtain ⟨o0, o1, o2, of⟩ := cell_of_three HOB.out.1
                  refine (put_fits (B + 1) v most bs nk wd _ HT3.out.ha.at_ hwl HVL.out HFT.out).mono ?_
                  rintro e w4 ⟨rfl, v5, hat, hst⟩
                  have HT4 : Hid (WF (B + 1) w1 w4 (B + 1) v5 (B + 2) vf most (bs ++ bitsOf nk wd) bs) := HT3.out.stepW hat hst
                  have hO : ∀ j x, w3.cell? ⟨wr.heap.size, j, none⟩ = some x → w4.cell? ⟨wr.heap.size, j, none⟩ = some x := fun j x hx => hst.fr.cell hx (by rintro (e | e); (have := HLT.out.1; omega); (have := HLT.out.2.2.1 _ e; omega))
                  have p0 := hO _ _ o0
                  have p1 := hO _ _ o1
                  have p2 := hO _ _ o2
                  clear hO o0 o1 o2 of
                  clear hat hst HT3
                  go_wp2_with fail
                  refine (rput_fits (B + 2) vf most bs nk wd _ HT4.out.hf hwl hNk.out HVL.out HFT.out).mono ?_
                  rintro e w5 ⟨rfl, vf5, hat, hst⟩
                  have HT5 : Hid (WF (B + 1) w1 w5 (B + 1) v5 (B + 2) vf5 most (bs ++ bitsOf nk wd) (bs ++ bitsOf nk wd)) := HT4.out.stepF hat hst
                  clear hat hst HT4 p0 p1 p2 HVL HFT
                  obtain ⟨bs5, hv5⟩ : ∃ bs5, bs5 = bs ++ bitsOf nk wd := ⟨_, rfl⟩
                  rw [← hv5] at HT5
                  clear hv5
                  go_wp2_with fail
                  refine (bytes_any (B + 1) v5 most bs5 _ HT5.out.ha.at_).mono ?_
                  rintro e w6 ⟨rv, rfl, hrv, hb6⟩
                  have HT6 : Hid (WF (B + 1) w1 w6 (B + 1) v5 (B + 2) vf5 most bs5 bs5) := HT5.out.later (Fr.of_below hb6 (fun _ => False)) (fun _ hh => hh.elim)
                  have HRV : Hid (BytesAt w6 w5.heap.size rv (pack bs5)) := hrv
                  have hls : bs5.length ≤ 8 * most := HT6.out.ha.at_.le
                  have hlp : (pack bs5).length ≤ 67108864 := by rw [length_pack]; omega
                  have HLP : Hid ((pack bs5).length ≤ 67108864) := hlp
                  obtain ⟨fc0, fc1, fcf⟩ := cell_of_two HT6.out.hf.blk
                  obtain ⟨fo, fcap, hfv, _⟩ := HT6.out.hf.form
                  rw [hfv] at fc1
                  have hq1 : ((bs5.length : Int) != (bs5.length : Int)) = false := by simp
                  have HF6 : Hid (Fr (fun _ => False) w5 w6) := Fr.of_below hb6 _
                  clear hrv hb6 hlp hfv
                  go_wp2
                  go_region_held3 (fun w' => w'.cell? ⟨B + 2, 1, none⟩ = some (.slice fo bs5.length fcap)) (first | go_keep | (exact cell_later hb8 fc1) | (rw [hw9]; exact cell_later hb8 fc1)) (first | (go_at_call 18; refine (len_any (B + 1) v5 most bs5 _ ?_).mono ?_; exact HT6.out.ha.at_.drew; rintro e w7 ⟨rfl, hw7⟩; subst hw7) | (go_at_call 20; refine (rbytes_any (B + 2) vf5 most bs5 _ ?_).mono ?_; exact HT6.out.hf.drewN 1; rintro e w8 ⟨rv8, rfl, hrv8, hb8⟩) | (go_at_call 19; refine (eq_same rv rv8 (pack bs5) (pack bs5) _ ?_ ?_ rfl true ?_).mono ?_; exact SeenAt.of_row (base := w5.heap.size) (row_kept HRV.out (((Fr.refl (fun _ => False) _).drewN 1).trans (Fr.of_below hb8 (fun _ => False)) (fun _ _ hh => hh)) (fun _ _ hh => hh)) (by have := HLP.out; omega); exact SeenAt.of_row hrv8 (by have := HLP.out; omega); (show true = _; simp); rintro e w9 ⟨rfl, q9, hw9⟩))
                  subst hw9
                  have HF9 : Hid (Fr (fun _ => False) w6 (w8.drewN q9)) := by
                    exact (((Fr.refl (fun _ => False) _).drewN 1).trans (Fr.of_below hb8 (fun _ => False)) (fun _ _ hh => hh)).drewN q9
                  have HR9 : Hid ((w8.drewN q9).ownsRow 0 5 1 rv (pack bs5).length (byteCells (pack bs5))) := ownsRow_base (row_kept HRV.out HF9.out (fun _ _ hh => hh)) (fun _ _ => Nat.zero_le _)
                  clear hb8 hrv8 fc0 fc1 fcf hq1 HT6
                  go_wp2_with fail
                  refine (over_any rv (pack bs5).length (byteCells (pack bs5)) _ HR9.out (by have := HLP.out; omega)).mono ?_
                  rintro e w10 ⟨rfl, hf10⟩
                  have HT10 : Hid (WF (B + 1) w1 w10 (B + 1) v5 (B + 2) vf5 most bs5 bs5) := by
                    refine HT5.out.later (S := fun k => rv.ownBlock = some k) (((HF6.out.trans HF9.out (fun _ _ hh => hh)).mono (fun _ _ hh => hh.elim)).trans hf10 (fun _ _ hh => hh)) (fun k hk => (HRV.out.lt k hk).1)
                  clear hf10 HR9 HF9 HF6 HRV HT5
                  go_wp2_with fail
                  go_roundw
                  case rel => exact ⟨k + 1, v5, vf5, bs5, by omega, by omega, congrArg (Value.int .i64) (by omega), HT10.out⟩
                  case measure => simp [intOf]; omega
                · have HFT : Hid (8 * most < bs.length + wd) := by show _ < _; omega
                  clear hft
                  obtain ⟨w3, hw3⟩ : ∃ w3, w3 = wr.alloc (.cells #[.int .i64 0, .int .u64 nk, .int .i64 (wd : Int)] 36) := ⟨_, rfl⟩
                  have HT3 : Hid (WF (B + 1) w1 w3 (B + 1) v (B + 2) vf most bs bs) := by rw [hw3]; exact HT.out.later ((Fr.refl (fun _ => False) _).alloc _) (fun _ hh => hh.elim)
                  have HOB : Hid (w3.heap[wr.heap.size]? = some (.cells #[.int .i64 0, .int .u64 nk, .int .i64 (wd : Int)] 36 (0, 0)) ∧ wr.heap.size < w3.heap.size) := by rw [hw3]; exact ⟨heap_alloc_new _ _, by simp⟩
                  have HLT : Hid ((B + 1) < wr.heap.size ∧ (B + 2) < wr.heap.size ∧ (∀ j, v.ownBlock = some j → j < wr.heap.size) ∧ (∀ j, vf.ownBlock = some j → j < wr.heap.size)) := ⟨HT.out.ha.at_.lt, HT.out.hf.lt, HT.out.ha.at_.rowlt, HT.out.hf.rowlt⟩
                  have HW3 : Hid (w3 = wr.alloc (.cells #[.int .i64 0, .int .u64 nk, .int .i64 (wd : Int)] 36)) := hw3
                  clear hw3 HT
                  go_wp2_with fail
                  rw [← HW3.out]
                  obtain ⟨o0, o1, o2, of⟩ := cell_of_three HOB.out.1
                  refine (put_full (B + 1) v most bs nk wd _ HT3.out.ha.at_ hwl HVL.out HFT.out).mono ?_
                  rintro e w4 ⟨rfl, q4, hw4⟩
                  have HT4 : Hid (WF (B + 1) w1 w4 (B + 1) v (B + 2) vf most bs bs) := by rw [hw4]; exact HT3.out.later ((Fr.refl (fun _ => False) _).drewN q4) (fun _ hh => hh.elim)
                  have hO : ∀ j x, w3.cell? ⟨wr.heap.size, j, none⟩ = some x → w4.cell? ⟨wr.heap.size, j, none⟩ = some x := fun j x hx => by rw [hw4]; exact hx
                  have p0 := hO _ _ o0
                  have p1 := hO _ _ o1
                  have p2 := hO _ _ o2
                  clear hO o0 o1 o2 of hw4 HT3
                  go_wp2_with fail
                  refine (rput_full (B + 2) vf most bs nk wd _ HT4.out.hf hwl HVL.out HFT.out).mono ?_
                  rintro e w5 ⟨rfl, q5, hw5⟩
                  have HT5 : Hid (WF (B + 1) w1 w5 (B + 1) v (B + 2) vf most bs bs) := by rw [hw5]; exact HT4.out.later ((Fr.refl (fun _ => False) _).drewN q5) (fun _ hh => hh.elim)
                  clear hw5 HT4 p0 p1 p2 HVL HFT
                  obtain ⟨v5, hv5⟩ : ∃ v5, v5 = v := ⟨_, rfl⟩
                  rw [← hv5] at HT5
                  clear hv5
                  obtain ⟨vf5, hv5⟩ : ∃ vf5, vf5 = vf := ⟨_, rfl⟩
                  rw [← hv5] at HT5
                  clear hv5
                  obtain ⟨bs5, hv5⟩ : ∃ bs5, bs5 = bs := ⟨_, rfl⟩
                  rw [← hv5] at HT5
                  clear hv5
                  go_wp2_with fail
                  refine (bytes_any (B + 1) v5 most bs5 _ HT5.out.ha.at_).mono ?_
                  rintro e w6 ⟨rv, rfl, hrv, hb6⟩
                  have HT6 : Hid (WF (B + 1) w1 w6 (B + 1) v5 (B + 2) vf5 most bs5 bs5) := HT5.out.later (Fr.of_below hb6 (fun _ => False)) (fun _ hh => hh.elim)
                  have HRV : Hid (BytesAt w6 w5.heap.size rv (pack bs5)) := hrv
                  have hls : bs5.length ≤ 8 * most := HT6.out.ha.at_.le
                  have hlp : (pack bs5).length ≤ 67108864 := by rw [length_pack]; omega
                  have HLP : Hid ((pack bs5).length ≤ 67108864) := hlp
                  obtain ⟨fc0, fc1, fcf⟩ := cell_of_two HT6.out.hf.blk
                  obtain ⟨fo, fcap, hfv, _⟩ := HT6.out.hf.form
                  rw [hfv] at fc1
                  have hq1 : ((bs5.length : Int) != (bs5.length : Int)) = false := by simp
                  have HF6 : Hid (Fr (fun _ => False) w5 w6) := Fr.of_below hb6 _
                  clear hrv hb6 hlp hfv
                  go_wp2
                  go_region_held3 (fun w' => w'.cell? ⟨B + 2, 1, none⟩ = some (.slice fo bs5.length fcap)) (first | go_keep | (exact cell_later hb8 fc1) | (rw [hw9]; exact cell_later hb8 fc1)) (first | (go_at_call 18; refine (len_any (B + 1) v5 most bs5 _ ?_).mono ?_; exact HT6.out.ha.at_.drew; rintro e w7 ⟨rfl, hw7⟩; subst hw7) | (go_at_call 20; refine (rbytes_any (B + 2) vf5 most bs5 _ ?_).mono ?_; exact HT6.out.hf.drewN 1; rintro e w8 ⟨rv8, rfl, hrv8, hb8⟩) | (go_at_call 19; refine (eq_same rv rv8 (pack bs5) (pack bs5) _ ?_ ?_ rfl true ?_).mono ?_; exact SeenAt.of_row (base := w5.heap.size) (row_kept HRV.out (((Fr.refl (fun _ => False) _).drewN 1).trans (Fr.of_below hb8 (fun _ => False)) (fun _ _ hh => hh)) (fun _ _ hh => hh)) (by have := HLP.out; omega); exact SeenAt.of_row hrv8 (by have := HLP.out; omega); (show true = _; simp); rintro e w9 ⟨rfl, q9, hw9⟩))
                  subst hw9
                  have HF9 : Hid (Fr (fun _ => False) w6 (w8.drewN q9)) := by
                    exact (((Fr.refl (fun _ => False) _).drewN 1).trans (Fr.of_below hb8 (fun _ => False)) (fun _ _ hh => hh)).drewN q9
                  have HR9 : Hid ((w8.drewN q9).ownsRow 0 5 1 rv (pack bs5).length (byteCells (pack bs5))) := ownsRow_base (row_kept HRV.out HF9.out (fun _ _ hh => hh)) (fun _ _ => Nat.zero_le _)
                  clear hb8 hrv8 fc0 fc1 fcf hq1 HT6
                  go_wp2_with fail
                  refine (over_any rv (pack bs5).length (byteCells (pack bs5)) _ HR9.out (by have := HLP.out; omega)).mono ?_
                  rintro e w10 ⟨rfl, hf10⟩
                  have HT10 : Hid (WF (B + 1) w1 w10 (B + 1) v5 (B + 2) vf5 most bs5 bs5) := by
                    refine HT5.out.later (S := fun k => rv.ownBlock = some k) (((HF6.out.trans HF9.out (fun _ _ hh => hh)).mono (fun _ _ hh => hh.elim)).trans hf10 (fun _ _ hh => hh)) (fun k hk => (HRV.out.lt k hk).1)
                  clear hf10 HR9 HF9 HF6 HRV HT5
                  go_wp2_with fail
                  go_roundw
                  case rel => exact ⟨k + 1, v5, vf5, bs5, by omega, by omega, congrArg (Value.int .i64) (by omega), HT10.out⟩
                  case measure => simp [intOf]; omega
          · have hkd0 : (kd == 0) = false := by simp; omega
            by_cases hk1' : kd = 1
            · subst hk1'
              by_cases hvf : bs.length + (varBits nk).length ≤ 8 * most
              · have HVF : Hid (bs.length + (varBits nk).length ≤ 8 * most) := hvf
                clear hvf
                obtain ⟨w3, hw3⟩ : ∃ w3, w3 = wr.alloc (.cells #[.int .i64 1, .int .u64 nk, .int .i64 dk] 36) := ⟨_, rfl⟩
                have HT3 : Hid (WF (B + 1) w1 w3 (B + 1) v (B + 2) vf most bs bs) := by rw [hw3]; exact HT.out.later ((Fr.refl (fun _ => False) _).alloc _) (fun _ hh => hh.elim)
                have HOB : Hid (w3.heap[wr.heap.size]? = some (.cells #[.int .i64 1, .int .u64 nk, .int .i64 dk] 36 (0, 0)) ∧ wr.heap.size < w3.heap.size) := by rw [hw3]; exact ⟨heap_alloc_new _ _, by simp⟩
                have HLT : Hid ((B + 1) < wr.heap.size ∧ (B + 2) < wr.heap.size ∧ (∀ j, v.ownBlock = some j → j < wr.heap.size) ∧ (∀ j, vf.ownBlock = some j → j < wr.heap.size)) := ⟨HT.out.ha.at_.lt, HT.out.hf.lt, HT.out.ha.at_.rowlt, HT.out.hf.rowlt⟩
                have HW3 : Hid (w3 = wr.alloc (.cells #[.int .i64 1, .int .u64 nk, .int .i64 dk] 36)) := hw3
                clear hw3 HT
                go_wp2_with fail
                rw [← HW3.out]
                obtain ⟨o0, o1, o2, of⟩ := cell_of_three HOB.out.1
                refine (wvar_fits (B + 1) v most bs nk _ HT3.out.ha.at_ hNk.out HVF.out).mono ?_
                rintro e w4 ⟨rfl, v5, hat, hst⟩
                have HT4 : Hid (WF (B + 1) w1 w4 (B + 1) v5 (B + 2) vf most (bs ++ varBits nk) bs) := HT3.out.stepW hat hst
                have hO : ∀ j x, w3.cell? ⟨wr.heap.size, j, none⟩ = some x → w4.cell? ⟨wr.heap.size, j, none⟩ = some x := fun j x hx => hst.fr.cell hx (by rintro (e | e); (have := HLT.out.1; omega); (have := HLT.out.2.2.1 _ e; omega))
                have p0 := hO _ _ o0
                have p1 := hO _ _ o1
                have p2 := hO _ _ o2
                clear hO o0 o1 o2 of
                clear hat hst HT3
                go_wp2_with fail
                refine (rvarw_fits (B + 2) vf most bs nk _ HT4.out.hf hNk.out HVF.out).mono ?_
                rintro e w5 ⟨rfl, vf5, hat, hst⟩
                have HT5 : Hid (WF (B + 1) w1 w5 (B + 1) v5 (B + 2) vf5 most (bs ++ varBits nk) (bs ++ varBits nk)) := HT4.out.stepF hat hst
                clear hat hst HT4 p0 p1 p2 HVF
                obtain ⟨bs5, hv5⟩ : ∃ bs5, bs5 = bs ++ varBits nk := ⟨_, rfl⟩
                rw [← hv5] at HT5
                clear hv5
                go_wp2_with fail
                refine (bytes_any (B + 1) v5 most bs5 _ HT5.out.ha.at_).mono ?_
                rintro e w6 ⟨rv, rfl, hrv, hb6⟩
                have HT6 : Hid (WF (B + 1) w1 w6 (B + 1) v5 (B + 2) vf5 most bs5 bs5) := HT5.out.later (Fr.of_below hb6 (fun _ => False)) (fun _ hh => hh.elim)
                have HRV : Hid (BytesAt w6 w5.heap.size rv (pack bs5)) := hrv
                have hls : bs5.length ≤ 8 * most := HT6.out.ha.at_.le
                have hlp : (pack bs5).length ≤ 67108864 := by rw [length_pack]; omega
                have HLP : Hid ((pack bs5).length ≤ 67108864) := hlp
                obtain ⟨fc0, fc1, fcf⟩ := cell_of_two HT6.out.hf.blk
                obtain ⟨fo, fcap, hfv, _⟩ := HT6.out.hf.form
                rw [hfv] at fc1
                have hq1 : ((bs5.length : Int) != (bs5.length : Int)) = false := by simp
                have HF6 : Hid (Fr (fun _ => False) w5 w6) := Fr.of_below hb6 _
                clear hrv hb6 hlp hfv
                go_wp2
                go_region_held3 (fun w' => w'.cell? ⟨B + 2, 1, none⟩ = some (.slice fo bs5.length fcap)) (first | go_keep | (exact cell_later hb8 fc1) | (rw [hw9]; exact cell_later hb8 fc1)) (first | (go_at_call 18; refine (len_any (B + 1) v5 most bs5 _ ?_).mono ?_; exact HT6.out.ha.at_.drew; rintro e w7 ⟨rfl, hw7⟩; subst hw7) | (go_at_call 20; refine (rbytes_any (B + 2) vf5 most bs5 _ ?_).mono ?_; exact HT6.out.hf.drewN 1; rintro e w8 ⟨rv8, rfl, hrv8, hb8⟩) | (go_at_call 19; refine (eq_same rv rv8 (pack bs5) (pack bs5) _ ?_ ?_ rfl true ?_).mono ?_; exact SeenAt.of_row (base := w5.heap.size) (row_kept HRV.out (((Fr.refl (fun _ => False) _).drewN 1).trans (Fr.of_below hb8 (fun _ => False)) (fun _ _ hh => hh)) (fun _ _ hh => hh)) (by have := HLP.out; omega); exact SeenAt.of_row hrv8 (by have := HLP.out; omega); (show true = _; simp); rintro e w9 ⟨rfl, q9, hw9⟩))
                subst hw9
                have HF9 : Hid (Fr (fun _ => False) w6 (w8.drewN q9)) := by
                  exact (((Fr.refl (fun _ => False) _).drewN 1).trans (Fr.of_below hb8 (fun _ => False)) (fun _ _ hh => hh)).drewN q9
                have HR9 : Hid ((w8.drewN q9).ownsRow 0 5 1 rv (pack bs5).length (byteCells (pack bs5))) := ownsRow_base (row_kept HRV.out HF9.out (fun _ _ hh => hh)) (fun _ _ => Nat.zero_le _)
                clear hb8 hrv8 fc0 fc1 fcf hq1 HT6
                go_wp2_with fail
                refine (over_any rv (pack bs5).length (byteCells (pack bs5)) _ HR9.out (by have := HLP.out; omega)).mono ?_
                rintro e w10 ⟨rfl, hf10⟩
                have HT10 : Hid (WF (B + 1) w1 w10 (B + 1) v5 (B + 2) vf5 most bs5 bs5) := by
                  refine HT5.out.later (S := fun k => rv.ownBlock = some k) (((HF6.out.trans HF9.out (fun _ _ hh => hh)).mono (fun _ _ hh => hh.elim)).trans hf10 (fun _ _ hh => hh)) (fun k hk => (HRV.out.lt k hk).1)
                clear hf10 HR9 HF9 HF6 HRV HT5
                go_wp2_with fail
                go_roundw
                case rel => exact ⟨k + 1, v5, vf5, bs5, by omega, by omega, congrArg (Value.int .i64) (by omega), HT10.out⟩
                case measure => simp [intOf]; omega
              · have HVF : Hid (8 * most < bs.length + (varBits nk).length) := by show _ < _; omega
                clear hvf
                obtain ⟨w3, hw3⟩ : ∃ w3, w3 = wr.alloc (.cells #[.int .i64 1, .int .u64 nk, .int .i64 dk] 36) := ⟨_, rfl⟩
                have HT3 : Hid (WF (B + 1) w1 w3 (B + 1) v (B + 2) vf most bs bs) := by rw [hw3]; exact HT.out.later ((Fr.refl (fun _ => False) _).alloc _) (fun _ hh => hh.elim)
                have HOB : Hid (w3.heap[wr.heap.size]? = some (.cells #[.int .i64 1, .int .u64 nk, .int .i64 dk] 36 (0, 0)) ∧ wr.heap.size < w3.heap.size) := by rw [hw3]; exact ⟨heap_alloc_new _ _, by simp⟩
                have HLT : Hid ((B + 1) < wr.heap.size ∧ (B + 2) < wr.heap.size ∧ (∀ j, v.ownBlock = some j → j < wr.heap.size) ∧ (∀ j, vf.ownBlock = some j → j < wr.heap.size)) := ⟨HT.out.ha.at_.lt, HT.out.hf.lt, HT.out.ha.at_.rowlt, HT.out.hf.rowlt⟩
                have HW3 : Hid (w3 = wr.alloc (.cells #[.int .i64 1, .int .u64 nk, .int .i64 dk] 36)) := hw3
                clear hw3 HT
                go_wp2_with fail
                rw [← HW3.out]
                obtain ⟨o0, o1, o2, of⟩ := cell_of_three HOB.out.1
                refine (wvar_full (B + 1) v most bs nk _ HT3.out.ha.at_ hNk.out HVF.out).mono ?_
                rintro e w4 ⟨rfl, v5, hat, hst⟩
                have HT4 : Hid (WF (B + 1) w1 w4 (B + 1) v5 (B + 2) vf most bs bs) := HT3.out.stepW hat hst
                have hO : ∀ j x, w3.cell? ⟨wr.heap.size, j, none⟩ = some x → w4.cell? ⟨wr.heap.size, j, none⟩ = some x := fun j x hx => hst.fr.cell hx (by rintro (e | e); (have := HLT.out.1; omega); (have := HLT.out.2.2.1 _ e; omega))
                have p0 := hO _ _ o0
                have p1 := hO _ _ o1
                have p2 := hO _ _ o2
                clear hO o0 o1 o2 of
                clear hat hst HT3
                go_wp2_with fail
                refine (rvarw_full (B + 2) vf most bs nk _ HT4.out.hf hNk.out HVF.out).mono ?_
                rintro e w5 ⟨rfl, hat, hfr⟩
                have HT5 : Hid (WF (B + 1) w1 w5 (B + 1) v5 (B + 2) vf most bs bs) := HT4.out.later hfr (fun _ hh => hh.elim)
                clear hat hfr HT4 p0 p1 p2 HVF
                obtain ⟨vf5, hv5⟩ : ∃ vf5, vf5 = vf := ⟨_, rfl⟩
                rw [← hv5] at HT5
                clear hv5
                obtain ⟨bs5, hv5⟩ : ∃ bs5, bs5 = bs := ⟨_, rfl⟩
                rw [← hv5] at HT5
                clear hv5
                go_wp2_with fail
                refine (bytes_any (B + 1) v5 most bs5 _ HT5.out.ha.at_).mono ?_
                rintro e w6 ⟨rv, rfl, hrv, hb6⟩
                have HT6 : Hid (WF (B + 1) w1 w6 (B + 1) v5 (B + 2) vf5 most bs5 bs5) := HT5.out.later (Fr.of_below hb6 (fun _ => False)) (fun _ hh => hh.elim)
                have HRV : Hid (BytesAt w6 w5.heap.size rv (pack bs5)) := hrv
                have hls : bs5.length ≤ 8 * most := HT6.out.ha.at_.le
                have hlp : (pack bs5).length ≤ 67108864 := by rw [length_pack]; omega
                have HLP : Hid ((pack bs5).length ≤ 67108864) := hlp
                obtain ⟨fc0, fc1, fcf⟩ := cell_of_two HT6.out.hf.blk
                obtain ⟨fo, fcap, hfv, _⟩ := HT6.out.hf.form
                rw [hfv] at fc1
                have hq1 : ((bs5.length : Int) != (bs5.length : Int)) = false := by simp
                have HF6 : Hid (Fr (fun _ => False) w5 w6) := Fr.of_below hb6 _
                clear hrv hb6 hlp hfv
                go_wp2
                go_region_held3 (fun w' => w'.cell? ⟨B + 2, 1, none⟩ = some (.slice fo bs5.length fcap)) (first | go_keep | (exact cell_later hb8 fc1) | (rw [hw9]; exact cell_later hb8 fc1)) (first | (go_at_call 18; refine (len_any (B + 1) v5 most bs5 _ ?_).mono ?_; exact HT6.out.ha.at_.drew; rintro e w7 ⟨rfl, hw7⟩; subst hw7) | (go_at_call 20; refine (rbytes_any (B + 2) vf5 most bs5 _ ?_).mono ?_; exact HT6.out.hf.drewN 1; rintro e w8 ⟨rv8, rfl, hrv8, hb8⟩) | (go_at_call 19; refine (eq_same rv rv8 (pack bs5) (pack bs5) _ ?_ ?_ rfl true ?_).mono ?_; exact SeenAt.of_row (base := w5.heap.size) (row_kept HRV.out (((Fr.refl (fun _ => False) _).drewN 1).trans (Fr.of_below hb8 (fun _ => False)) (fun _ _ hh => hh)) (fun _ _ hh => hh)) (by have := HLP.out; omega); exact SeenAt.of_row hrv8 (by have := HLP.out; omega); (show true = _; simp); rintro e w9 ⟨rfl, q9, hw9⟩))
                subst hw9
                have HF9 : Hid (Fr (fun _ => False) w6 (w8.drewN q9)) := by
                  exact (((Fr.refl (fun _ => False) _).drewN 1).trans (Fr.of_below hb8 (fun _ => False)) (fun _ _ hh => hh)).drewN q9
                have HR9 : Hid ((w8.drewN q9).ownsRow 0 5 1 rv (pack bs5).length (byteCells (pack bs5))) := ownsRow_base (row_kept HRV.out HF9.out (fun _ _ hh => hh)) (fun _ _ => Nat.zero_le _)
                clear hb8 hrv8 fc0 fc1 fcf hq1 HT6
                go_wp2_with fail
                refine (over_any rv (pack bs5).length (byteCells (pack bs5)) _ HR9.out (by have := HLP.out; omega)).mono ?_
                rintro e w10 ⟨rfl, hf10⟩
                have HT10 : Hid (WF (B + 1) w1 w10 (B + 1) v5 (B + 2) vf5 most bs5 bs5) := by
                  refine HT5.out.later (S := fun k => rv.ownBlock = some k) (((HF6.out.trans HF9.out (fun _ _ hh => hh)).mono (fun _ _ hh => hh.elim)).trans hf10 (fun _ _ hh => hh)) (fun k hk => (HRV.out.lt k hk).1)
                clear hf10 HR9 HF9 HF6 HRV HT5
                go_wp2_with fail
                go_roundw
                case rel => exact ⟨k + 1, v5, vf5, bs5, by omega, by omega, congrArg (Value.int .i64) (by omega), HT10.out⟩
                case measure => simp [intOf]; omega
            · have hkd1 : (kd == 1) = false := by simp; omega
              obtain ⟨w3, hw3⟩ : ∃ w3, w3 = wr.alloc (.cells #[.int .i64 kd, .int .u64 nk, .int .i64 dk] 36) := ⟨_, rfl⟩
              have HT3 : Hid (WF (B + 1) w1 w3 (B + 1) v (B + 2) vf most bs bs) := by rw [hw3]; exact HT.out.later ((Fr.refl (fun _ => False) _).alloc _) (fun _ hh => hh.elim)
              have HOB : Hid (w3.heap[wr.heap.size]? = some (.cells #[.int .i64 kd, .int .u64 nk, .int .i64 dk] 36 (0, 0)) ∧ wr.heap.size < w3.heap.size) := by rw [hw3]; exact ⟨heap_alloc_new _ _, by simp⟩
              have HLT : Hid ((B + 1) < wr.heap.size ∧ (B + 2) < wr.heap.size ∧ (∀ j, v.ownBlock = some j → j < wr.heap.size) ∧ (∀ j, vf.ownBlock = some j → j < wr.heap.size)) := ⟨HT.out.ha.at_.lt, HT.out.hf.lt, HT.out.ha.at_.rowlt, HT.out.hf.rowlt⟩
              have HW3 : Hid (w3 = wr.alloc (.cells #[.int .i64 kd, .int .u64 nk, .int .i64 dk] 36)) := hw3
              clear hw3 HT
              go_wp2_with fail
              rw [← HW3.out]
              obtain ⟨o0, o1, o2, of⟩ := cell_of_three HOB.out.1
              refine (align_any (B + 1) v most bs _ HT3.out.ha.at_).mono ?_
              rintro e w4 ⟨rfl, hat, hst⟩
              have HT4 : Hid (WF (B + 1) w1 w4 (B + 1) v (B + 2) vf most (padded bs) bs) := HT3.out.stepW hat hst
              clear hat hst HT3 o0 o1 o2 of
              go_wp2_with fail
              refine (ralignw_any (B + 2) vf most bs _ HT4.out.hf).mono ?_
              rintro e w5 ⟨rfl, vf5, hat, hst⟩
              have HT5 : Hid (WF (B + 1) w1 w5 (B + 1) v (B + 2) vf5 most (padded bs) (padded bs)) := HT4.out.stepF hat hst
              clear hat hst HT4
              obtain ⟨v5, hv5⟩ : ∃ v5, v5 = v := ⟨_, rfl⟩
              rw [← hv5] at HT5
              clear hv5
              obtain ⟨bs5, hv5⟩ : ∃ bs5, bs5 = padded bs := ⟨_, rfl⟩
              rw [← hv5] at HT5
              clear hv5
              go_wp2_with fail
              refine (bytes_any (B + 1) v5 most bs5 _ HT5.out.ha.at_).mono ?_
              rintro e w6 ⟨rv, rfl, hrv, hb6⟩
              have HT6 : Hid (WF (B + 1) w1 w6 (B + 1) v5 (B + 2) vf5 most bs5 bs5) := HT5.out.later (Fr.of_below hb6 (fun _ => False)) (fun _ hh => hh.elim)
              have HRV : Hid (BytesAt w6 w5.heap.size rv (pack bs5)) := hrv
              have hls : bs5.length ≤ 8 * most := HT6.out.ha.at_.le
              have hlp : (pack bs5).length ≤ 67108864 := by rw [length_pack]; omega
              have HLP : Hid ((pack bs5).length ≤ 67108864) := hlp
              obtain ⟨fc0, fc1, fcf⟩ := cell_of_two HT6.out.hf.blk
              obtain ⟨fo, fcap, hfv, _⟩ := HT6.out.hf.form
              rw [hfv] at fc1
              have hq1 : ((bs5.length : Int) != (bs5.length : Int)) = false := by simp
              have HF6 : Hid (Fr (fun _ => False) w5 w6) := Fr.of_below hb6 _
              clear hrv hb6 hlp hfv
              go_wp2
              go_region_held3 (fun w' => w'.cell? ⟨B + 2, 1, none⟩ = some (.slice fo bs5.length fcap)) (first | go_keep | (exact cell_later hb8 fc1) | (rw [hw9]; exact cell_later hb8 fc1)) (first | (go_at_call 18; refine (len_any (B + 1) v5 most bs5 _ ?_).mono ?_; exact HT6.out.ha.at_.drew; rintro e w7 ⟨rfl, hw7⟩; subst hw7) | (go_at_call 20; refine (rbytes_any (B + 2) vf5 most bs5 _ ?_).mono ?_; exact HT6.out.hf.drewN 1; rintro e w8 ⟨rv8, rfl, hrv8, hb8⟩) | (go_at_call 19; refine (eq_same rv rv8 (pack bs5) (pack bs5) _ ?_ ?_ rfl true ?_).mono ?_; exact SeenAt.of_row (base := w5.heap.size) (row_kept HRV.out (((Fr.refl (fun _ => False) _).drewN 1).trans (Fr.of_below hb8 (fun _ => False)) (fun _ _ hh => hh)) (fun _ _ hh => hh)) (by have := HLP.out; omega); exact SeenAt.of_row hrv8 (by have := HLP.out; omega); (show true = _; simp); rintro e w9 ⟨rfl, q9, hw9⟩))
              subst hw9
              have HF9 : Hid (Fr (fun _ => False) w6 (w8.drewN q9)) := by
                exact (((Fr.refl (fun _ => False) _).drewN 1).trans (Fr.of_below hb8 (fun _ => False)) (fun _ _ hh => hh)).drewN q9
              have HR9 : Hid ((w8.drewN q9).ownsRow 0 5 1 rv (pack bs5).length (byteCells (pack bs5))) := ownsRow_base (row_kept HRV.out HF9.out (fun _ _ hh => hh)) (fun _ _ => Nat.zero_le _)
              clear hb8 hrv8 fc0 fc1 fcf hq1 HT6
              go_wp2_with fail
              refine (over_any rv (pack bs5).length (byteCells (pack bs5)) _ HR9.out (by have := HLP.out; omega)).mono ?_
              rintro e w10 ⟨rfl, hf10⟩
              have HT10 : Hid (WF (B + 1) w1 w10 (B + 1) v5 (B + 2) vf5 most bs5 bs5) := by
                refine HT5.out.later (S := fun k => rv.ownBlock = some k) (((HF6.out.trans HF9.out (fun _ _ hh => hh)).mono (fun _ _ hh => hh.elim)).trans hf10 (fun _ _ hh => hh)) (fun k hk => (HRV.out.lt k hk).1)
              clear hf10 HR9 HF9 HF6 HRV HT5
              go_wp2_with fail
              go_roundw
              case rel => exact ⟨k + 1, v5, vf5, bs5, by omega, by omega, congrArg (Value.int .i64) (by omega), HT10.out⟩
              case measure => simp [intOf]; omega
        · go_wp2_with fail
          refine (wakes_any _).mono ?_
          rintro e w3 ⟨rfl, hb⟩
          have HBf : Hid (Below B w w3) := by
            have h1 := HB1.out
            rw [← HBE.out] at h1
            exact h1.trans ((HT.out.ha.bel.mono (by omega)).trans (hb.mono (by have := HT.out.ha.size; omega)))
          clear hb
          go_wp2_with fail
          go_ret
          refine ⟨rfl, ?_⟩
          rw [← HBE.out]
          exact HBf.out
      · go_wp2_with fail
        refine (wakes_any _).mono ?_
        rintro e w3 ⟨rfl, hb⟩
        have HBf : Hid (Below B w w3) := by
          have h1 := HB1.out
          rw [← HBE.out] at h1
          exact h1.trans ((HT.out.ha.bel.mono (by omega)).trans (hb.mono (by have := HT.out.ha.size; omega)))
        clear hb
        go_wp2_with fail
        go_ret
        refine ⟨rfl, ?_⟩
        rw [← HBE.out]
        exact HBf.out

end Go.Proofs.Ythfimeaajboihaa
