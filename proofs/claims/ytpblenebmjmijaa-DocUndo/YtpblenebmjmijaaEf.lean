/- 'Blit'. -/
import Derived.Test.YtpblenebmjmijaaEe
namespace Go.Proofs.Ytpblenebmjmijaa
set_option maxRecDepth 100000
open Go.RowKit

set_option maxHeartbeats 1000000 in
theorem isOp_any (op : Nat) (w : World) :
    Calls Try.prog 30 #[.int .i64 op] w fun e w' => e = .returned (.bool (decide (op ≤ 4))) ∧ w' = w := by
  go_enter Try.func30, Try.ntmps30
  by_cases h : op ≤ 4
  · go_wp2
    go_ret
    exact ⟨by simp [h]; omega, rfl⟩
  · go_wp2
    go_ret
    exact ⟨by simp [h]; omega, rfl⟩

set_option maxHeartbeats 2000000 in
theorem docBlit_other (op base d b g cap W H n bs gs caps1 Ws Hs ns : Nat) (P Ps : Nat → Nat → Bool) (sx sy ww hh dx dy : Int) (pv sv : Value) (ps ss : List Value) (w : World) (h : DocAt w base d pv sv ps ss) (hm : MapAt w b g cap W H P) (hms : MapAt w bs gs caps1 Ws Hs Ps) (hv : ps[n]? = some (.pointer (some ⟨b, 0, none⟩))) (hvs : ps[ns]? = some (.pointer (some ⟨bs, 0, none⟩))) (hb : ps.length ≤ 64) (hl : ss.length ≤ 64) (hone : ∀ u ∈ ss, u.oneCell' = true) (hop : op ≤ 4) (hne : bs ≠ b) (hbg : bs ≠ g) (hgg : gs ≠ g)
    (b1 : I64 sx) (b2 : I64 sy) (b3 : 0 ≤ ww ∧ ww ≤ 9223372036854775807) (b4 : 0 ≤ hh ∧ hh ≤ 9223372036854775807) (b5 : I64 dx) (b6 : I64 dy) :
    Calls Try.prog 11 #[.pointer (some ⟨d, 0, none⟩), .int .i64 ns, .int .i64 sx, .int .i64 sy, .int .i64 ww, .int .i64 hh, .int .i64 n, .int .i64 dx, .int .i64 dy, .int .i64 op] w fun e w' => e = .returned (.int .i64 0) ∧ ∃ sv' fn caps p1 q1 n1 p2 q2 n2, DocAt w' base d pv sv' ps (cut ss ++ [.func fn #[] caps]) ∧ Clip sx Ws dx W ww p1 q1 n1 ∧ Clip sy Hs dy H hh p2 q2 n2 ∧ RS w' w.heap.size (.func fn #[] caps) b W H P q1 n1 q2 n2 ∧ MapAt w' b g cap W H (blitPix (opB op) P Ps Ws Hs sx sy ww hh dx dy) ∧ Fr (fun k => k = d ∨ sv.ownBlock = some k ∨ k = g) w w' ∧ (∀ k, sv'.ownBlock = some k → sv.ownBlock = some k ∨ w.heap.size ≤ k) := by
  have HD : Hid (DocAt w base d pv sv ps ss) := h
  have HM : Hid (MapAt w b g cap W H P) := hm
  have HB : Hid (b ≠ d ∧ g ≠ d ∧ pv.ownBlock ≠ some b ∧ pv.ownBlock ≠ some g ∧ sv.ownBlock ≠ some b ∧ sv.ownBlock ≠ some g) := hm.apart h
  have HMS : Hid (MapAt w bs gs caps1 Ws Hs Ps) := hms
  have HBS : Hid (bs ≠ d ∧ gs ≠ d ∧ pv.ownBlock ≠ some bs ∧ pv.ownBlock ≠ some gs ∧ sv.ownBlock ≠ some bs ∧ sv.ownBlock ≠ some gs) := hms.apart h
  have HONE : Hid (∀ u ∈ ss, u.oneCell' = true) := hone
  obtain ⟨f1, f2, _⟩ := size_facts hm.wpos hm.hpos hm.area
  obtain ⟨f3, f4, _⟩ := size_facts hms.wpos hms.hpos hms.area
  have B1 : Hid (-9223372036854775808 ≤ sx ∧ sx ≤ 9223372036854775807) := b1
  have B2 : Hid (-9223372036854775808 ≤ sy ∧ sy ≤ 9223372036854775807) := b2
  have B5 : Hid (-9223372036854775808 ≤ dx ∧ dx ≤ 9223372036854775807) := b5
  have B6 : Hid (-9223372036854775808 ≤ dy ∧ dy ≤ 9223372036854775807) := b6
  clear h hm hms hone b1 b2 b5 b6
  go_enter Try.func11, Try.ntmps11
  go_wp2_with fail
  refine (page_in base d pv sv ps ss ns _ _ HD.out hvs hb).mono ?_
  rintro e w0 ⟨rfl, rfl⟩
  go_wp2_with fail
  refine (page_in base d pv sv ps ss n _ _ HD.out hv hb).mono ?_
  rintro e w1 ⟨rfl, rfl⟩
  go_wp2_with fail
  refine (isOp_any op _).mono ?_
  rintro e w2 ⟨rfl, rfl⟩
  rw [decide_eq_true (by omega)]
  go_wp2_with fail
  refine (size_any bs gs caps1 Ws Hs Ps _ HMS.out).mono ?_
  rintro e wa ⟨rfl, qa, hwa⟩
  have HFa : Hid (Fr (fun _ => False) w2 wa) := by rw [hwa]; exact (Fr.refl _ _).drewN qa
  clear hwa
  go_wp2_with fail
  refine (size_any b g cap W H P _ (HM.out.kept HFa.out (fun h => h) (fun h => h))).mono ?_
  rintro e w3 ⟨rfl, q, hw3⟩
  have HF3 : Hid (Fr (fun _ => False) w2 w3) := by rw [hw3]; exact HFa.out.drewN q
  clear hw3
  go_wp2_with fail
  refine (dclip_any sx dx ww Ws W _ B1.out B5.out b3 f3 f1).mono ?_
  rintro e w4 ⟨p1, q1, n1, rfl, hc1, hf4⟩
  have HC1 : Hid (Clip sx Ws dx W ww p1 q1 n1) := hc1
  have HF4 : Hid (Fr (fun _ => False) w2 w4) := HF3.out.trans hf4 (fun _ _ h => h)
  clear hc1 hf4
  go_wp2_with fail
  refine (dclip_any sy dy hh Hs H _ B2.out B6.out b4 f4 f2).mono ?_
  rintro e w5 ⟨p2, q2, n2, rfl, hc2, hf5⟩
  have HC2 : Hid (Clip sy Hs dy H hh p2 q2 n2) := hc2
  have HF5 : Hid (Fr (fun _ => False) w2 w5) := HF4.out.trans hf5 (fun _ _ h => h)
  have hz5 := HF5.out.size
  clear hc2 hf5
  go_wp2_with fail
  refine (pixelsAgain_any b g cap W H P q1 n1 q2 n2 _ (HM.out.kept HF5.out (fun h => h) (fun h => h)) HC1.out.hb HC2.out.hb).mono ?_
  rintro e w6 ⟨fn, caps, rfl, hr6, hf6⟩
  have HR6 : Hid (RS w6 w5.heap.size (.func fn #[] caps) b W H P q1 n1 q2 n2) := hr6
  have HF6 : Hid (Fr (fun _ => False) w2 w6) := HF5.out.trans hf6 (fun _ _ h => h)
  have HZ6 : Hid (w5.heap.size ≤ w6.heap.size) := hf6.size
  have HD6 : Hid (DocAt w6 base d pv sv ps ss) := HD.out.kept HF6.out (fun h => h) (fun _ _ h => h) (fun _ _ h => h)
  have HM6 : Hid (MapAt w6 b g cap W H P) := HM.out.kept HF6.out (fun h => h) (fun h => h)
  clear hr6 hf6
  go_wp2_with fail
  refine (remember_any base d pv sv ps ss fn caps _ HD6.out hl HONE.out).mono ?_
  rintro e w7 ⟨rfl, sv', hd7, hf7, ho7⟩
  have HD7 : Hid (DocAt w7 base d pv sv' ps (cut ss ++ [.func fn #[] caps])) := hd7
  have HF7 : Hid (Fr (fun k => k = d ∨ sv.ownBlock = some k) w6 w7) := hf7
  have HO7 : Hid (∀ k, sv'.ownBlock = some k → sv.ownBlock = some k ∨ w6.heap.size ≤ k) := ho7
  have HM7 : Hid (MapAt w7 b g cap W H P) := HM6.out.kept hf7 (fun e => e.elim HB.out.1 HB.out.2.2.2.2.1) (fun e => e.elim HB.out.2.1 HB.out.2.2.2.2.2)
  have HMS7 : Hid (MapAt w7 bs gs caps1 Ws Hs Ps) := (HMS.out.kept HF6.out (fun h => h) (fun h => h)).kept hf7 (fun e => e.elim HBS.out.1 HBS.out.2.2.2.2.1) (fun e => e.elim HBS.out.2.1 HBS.out.2.2.2.2.2)
  clear hd7 hf7 ho7
  go_wp2_with fail
  refine (blit_other op b g cap W H bs gs caps1 Ws Hs P Ps sx sy ww hh dx dy _ HM7.out HMS7.out hop hne hbg hgg B1.out B2.out b3 b4 B5.out B6.out).mono ?_
  rintro e w8 ⟨rfl, hm8, hf8⟩
  have HM8 : Hid (MapAt w8 b g cap W H (blitPix (opB op) P Ps Ws Hs sx sy ww hh dx dy)) := hm8
  have HF8 : Hid (Fr (fun k => k = g) w7 w8) := hf8
  clear hm8 hf8
  go_wp2_with fail
  go_ret
  have hdl := HD.out.lt
  have hsl : ∀ k, sv.ownBlock = some k → k < w2.heap.size := fun k hk => (HD.out.st.lt k hk).2
  have hgl := HM.out.glt
  have hz6 := HZ6.out
  have hap := HM7.out.apart HD7.out
  have hrs : ∀ {B B' : Nat} {w : World} {f : Value} {b W H : Nat} {P : Nat → Nat → Bool} {q1 n1 q2 n2 : Nat}, RS w B f b W H P q1 n1 q2 n2 → B' ≤ B → RS w B' f b W H P q1 n1 q2 n2 := fun h hb => h.elim Or.inl (fun ⟨a1, a2, a3, a4, s, t, b0, g0, a5, a6, a7, k1, k2, k3, k4⟩ => Or.inr ⟨a1, a2, a3, a4, s, t, b0, g0, a5, a6, a7, by omega, by omega, by omega, by omega⟩)
  refine ⟨rfl, sv', fn, caps, p1, q1, n1, p2, q2, n2, HD7.out.kept HF8.out (fun e => HB.out.2.1 e.symm) (fun k hk e => HB.out.2.2.2.1 (by rw [hk, e])) (fun k hk e => hap.2.2.2.2.2 (by rw [hk, e])), HC1.out, HC2.out, hrs ((HR6.out.kept HF7.out (fun k hk _ e => ?_)).kept HF8.out (fun k hk _ e => by omega)) hz5, HM8.out, ?_, fun k hk => (HO7.out k hk).imp id (fun h => by omega)⟩
  · rcases e with e | e
    · omega
    · have := hsl _ e; omega
  · refine Fr.trans (HF6.out.mono (fun _ _ h => h.elim)) (Fr.trans (HF7.out.mono (fun k _ h => ?_)) HF8.out (fun k _ h => ?_)) (fun _ _ h => h)
    · exact h.elim Or.inl (fun h => Or.inr (Or.inl h))
    · exact Or.inr (Or.inr h)
set_option maxHeartbeats 2000000 in
theorem docBlit_self (op base d b g cap W H n  : Nat) (P : Nat → Nat → Bool) (sx sy ww hh dx dy : Int) (pv sv : Value) (ps ss : List Value) (w : World) (h : DocAt w base d pv sv ps ss) (hm : MapAt w b g cap W H P)  (hv : ps[n]? = some (.pointer (some ⟨b, 0, none⟩)))  (hb : ps.length ≤ 64) (hl : ss.length ≤ 64) (hone : ∀ u ∈ ss, u.oneCell' = true) (hop : op ≤ 4) 
    (b1 : I64 sx) (b2 : I64 sy) (b3 : 0 ≤ ww ∧ ww ≤ 9223372036854775807) (b4 : 0 ≤ hh ∧ hh ≤ 9223372036854775807) (b5 : I64 dx) (b6 : I64 dy) :
    Calls Try.prog 11 #[.pointer (some ⟨d, 0, none⟩), .int .i64 n, .int .i64 sx, .int .i64 sy, .int .i64 ww, .int .i64 hh, .int .i64 n, .int .i64 dx, .int .i64 dy, .int .i64 op] w fun e w' => e = .returned (.int .i64 0) ∧ ∃ sv' fn caps p1 q1 n1 p2 q2 n2, DocAt w' base d pv sv' ps (cut ss ++ [.func fn #[] caps]) ∧ Clip sx W dx W ww p1 q1 n1 ∧ Clip sy H dy H hh p2 q2 n2 ∧ RS w' w.heap.size (.func fn #[] caps) b W H P q1 n1 q2 n2 ∧ MapAt w' b g cap W H (blitPix (opB op) P P W H sx sy ww hh dx dy) ∧ Fr (fun k => k = d ∨ sv.ownBlock = some k ∨ k = g) w w' ∧ (∀ k, sv'.ownBlock = some k → sv.ownBlock = some k ∨ w.heap.size ≤ k) := by
  have HD : Hid (DocAt w base d pv sv ps ss) := h
  have HM : Hid (MapAt w b g cap W H P) := hm
  have HB : Hid (b ≠ d ∧ g ≠ d ∧ pv.ownBlock ≠ some b ∧ pv.ownBlock ≠ some g ∧ sv.ownBlock ≠ some b ∧ sv.ownBlock ≠ some g) := hm.apart h
  have HONE : Hid (∀ u ∈ ss, u.oneCell' = true) := hone
  obtain ⟨f1, f2, _⟩ := size_facts hm.wpos hm.hpos hm.area
  have B1 : Hid (-9223372036854775808 ≤ sx ∧ sx ≤ 9223372036854775807) := b1
  have B2 : Hid (-9223372036854775808 ≤ sy ∧ sy ≤ 9223372036854775807) := b2
  have B5 : Hid (-9223372036854775808 ≤ dx ∧ dx ≤ 9223372036854775807) := b5
  have B6 : Hid (-9223372036854775808 ≤ dy ∧ dy ≤ 9223372036854775807) := b6
  clear h hm  hone b1 b2 b5 b6
  go_enter Try.func11, Try.ntmps11
  go_wp2_with fail
  refine (page_in base d pv sv ps ss n _ _ HD.out hv hb).mono ?_
  rintro e w0 ⟨rfl, rfl⟩
  go_wp2_with fail
  refine (page_in base d pv sv ps ss n _ _ HD.out hv hb).mono ?_
  rintro e w1 ⟨rfl, rfl⟩
  go_wp2_with fail
  refine (isOp_any op _).mono ?_
  rintro e w2 ⟨rfl, rfl⟩
  rw [decide_eq_true (by omega)]
  go_wp2_with fail
  refine (size_any b g cap W H P _ HM.out).mono ?_
  rintro e wa ⟨rfl, qa, hwa⟩
  have HFa : Hid (Fr (fun _ => False) w2 wa) := by rw [hwa]; exact (Fr.refl _ _).drewN qa
  clear hwa
  go_wp2_with fail
  refine (size_any b g cap W H P _ (HM.out.kept HFa.out (fun h => h) (fun h => h))).mono ?_
  rintro e w3 ⟨rfl, q, hw3⟩
  have HF3 : Hid (Fr (fun _ => False) w2 w3) := by rw [hw3]; exact HFa.out.drewN q
  clear hw3
  go_wp2_with fail
  refine (dclip_any sx dx ww W W _ B1.out B5.out b3 f1 f1).mono ?_
  rintro e w4 ⟨p1, q1, n1, rfl, hc1, hf4⟩
  have HC1 : Hid (Clip sx W dx W ww p1 q1 n1) := hc1
  have HF4 : Hid (Fr (fun _ => False) w2 w4) := HF3.out.trans hf4 (fun _ _ h => h)
  clear hc1 hf4
  go_wp2_with fail
  refine (dclip_any sy dy hh H H _ B2.out B6.out b4 f2 f2).mono ?_
  rintro e w5 ⟨p2, q2, n2, rfl, hc2, hf5⟩
  have HC2 : Hid (Clip sy H dy H hh p2 q2 n2) := hc2
  have HF5 : Hid (Fr (fun _ => False) w2 w5) := HF4.out.trans hf5 (fun _ _ h => h)
  have hz5 := HF5.out.size
  clear hc2 hf5
  go_wp2_with fail
  refine (pixelsAgain_any b g cap W H P q1 n1 q2 n2 _ (HM.out.kept HF5.out (fun h => h) (fun h => h)) HC1.out.hb HC2.out.hb).mono ?_
  rintro e w6 ⟨fn, caps, rfl, hr6, hf6⟩
  have HR6 : Hid (RS w6 w5.heap.size (.func fn #[] caps) b W H P q1 n1 q2 n2) := hr6
  have HF6 : Hid (Fr (fun _ => False) w2 w6) := HF5.out.trans hf6 (fun _ _ h => h)
  have HZ6 : Hid (w5.heap.size ≤ w6.heap.size) := hf6.size
  have HD6 : Hid (DocAt w6 base d pv sv ps ss) := HD.out.kept HF6.out (fun h => h) (fun _ _ h => h) (fun _ _ h => h)
  have HM6 : Hid (MapAt w6 b g cap W H P) := HM.out.kept HF6.out (fun h => h) (fun h => h)
  clear hr6 hf6
  go_wp2_with fail
  refine (remember_any base d pv sv ps ss fn caps _ HD6.out hl HONE.out).mono ?_
  rintro e w7 ⟨rfl, sv', hd7, hf7, ho7⟩
  have HD7 : Hid (DocAt w7 base d pv sv' ps (cut ss ++ [.func fn #[] caps])) := hd7
  have HF7 : Hid (Fr (fun k => k = d ∨ sv.ownBlock = some k) w6 w7) := hf7
  have HO7 : Hid (∀ k, sv'.ownBlock = some k → sv.ownBlock = some k ∨ w6.heap.size ≤ k) := ho7
  have HM7 : Hid (MapAt w7 b g cap W H P) := HM6.out.kept hf7 (fun e => e.elim HB.out.1 HB.out.2.2.2.2.1) (fun e => e.elim HB.out.2.1 HB.out.2.2.2.2.2)
  clear hd7 hf7 ho7
  go_wp2_with fail
  refine (blit_self op b g cap W H P sx sy ww hh dx dy _ HM7.out hop B1.out B2.out b3 b4 B5.out B6.out).mono ?_
  rintro e w8 ⟨rfl, hm8, hf8⟩
  have HM8 : Hid (MapAt w8 b g cap W H (blitPix (opB op) P P W H sx sy ww hh dx dy)) := hm8
  have HF8 : Hid (Fr (fun k => k = g) w7 w8) := hf8
  clear hm8 hf8
  go_wp2_with fail
  go_ret
  have hdl := HD.out.lt
  have hsl : ∀ k, sv.ownBlock = some k → k < w2.heap.size := fun k hk => (HD.out.st.lt k hk).2
  have hgl := HM.out.glt
  have hz6 := HZ6.out
  have hap := HM7.out.apart HD7.out
  have hrs : ∀ {B B' : Nat} {w : World} {f : Value} {b W H : Nat} {P : Nat → Nat → Bool} {q1 n1 q2 n2 : Nat}, RS w B f b W H P q1 n1 q2 n2 → B' ≤ B → RS w B' f b W H P q1 n1 q2 n2 := fun h hb => h.elim Or.inl (fun ⟨a1, a2, a3, a4, s, t, b0, g0, a5, a6, a7, k1, k2, k3, k4⟩ => Or.inr ⟨a1, a2, a3, a4, s, t, b0, g0, a5, a6, a7, by omega, by omega, by omega, by omega⟩)
  refine ⟨rfl, sv', fn, caps, p1, q1, n1, p2, q2, n2, HD7.out.kept HF8.out (fun e => HB.out.2.1 e.symm) (fun k hk e => HB.out.2.2.2.1 (by rw [hk, e])) (fun k hk e => hap.2.2.2.2.2 (by rw [hk, e])), HC1.out, HC2.out, hrs ((HR6.out.kept HF7.out (fun k hk _ e => ?_)).kept HF8.out (fun k hk _ e => by omega)) hz5, HM8.out, ?_, fun k hk => (HO7.out k hk).imp id (fun h => by omega)⟩
  · rcases e with e | e
    · omega
    · have := hsl _ e; omega
  · refine Fr.trans (HF6.out.mono (fun _ _ h => h.elim)) (Fr.trans (HF7.out.mono (fun k _ h => ?_)) HF8.out (fun k _ h => ?_)) (fun _ _ h => h)
    · exact h.elim Or.inl (fun h => Or.inr (Or.inl h))
    · exact Or.inr (Or.inr h)
end Go.Proofs.Ytpblenebmjmijaa
