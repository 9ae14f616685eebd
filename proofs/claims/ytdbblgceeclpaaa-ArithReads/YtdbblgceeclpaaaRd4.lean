/- The law 'ArithReads'. -/
import Derived.Deep.RegionHeld3
import Derived.Deep.QuietTactic
import Derived.BigQuiet
import Derived.Test.YtdbblgceeclpaaaRdP
import Derived.Test.YtdbblgceeclpaaaWakes
import Derived.Test.YtdbblgceeclpaaaEq
namespace Go.Proofs.Ytdbblgceeclpaaa
open Go.RowKit

set_option maxRecDepth 100000 in
set_option maxHeartbeats 400000000 in
theorem reads4_any (vB : Value) (B : List Nat) (N : Int) (bN : -9223372036854775808 ≤ N ∧ N ≤ 9223372036854775807) (ao : Option Addr) (nn cap : Nat) (K : Nat → Int) (w : World) (hb : BytesOK w vB B) (h : IntsAt w ao nn K) :
    Calls Try.prog 5 #[.agg #[vB, .int .i64 N, .slice ao nn cap]] w fun e w' => e = .returned (.bool true) ∧ Fr (fun _ => False) w w' := by
  have hnn := h.len
  have HD : Hid (IntsAt w ao nn K) := h
  have HB0 : Hid (BytesOK w vB B) := hb
  obtain ⟨fa, fc, hff, -, -⟩ := hb.hf
  obtain ⟨nf, HNf⟩ : ∃ nf, Hid (nf = B.length) := ⟨_, rfl⟩
  rw [← HNf.out] at hff
  subst hff
  have HBX : Hid (∀ w', Fr (fun _ => False) (w.alloc (.cells #[.slice fa nf fc, .int .i64 N, .slice ao nn cap] 66)) w' → w'.cell? ⟨w.heap.size, 0, none⟩ = some (.slice fa nf fc) ∧ w'.cell? ⟨w.heap.size, 1, none⟩ = some (.int .i64 N) ∧ w'.cell? ⟨w.heap.size, 2, none⟩ = some (.slice ao nn cap)) := fun w' hf => by
    have hB : w'.heap[w.heap.size]? = some (.cells #[.slice fa nf fc, .int .i64 N, .slice ao nn cap] 66 (0, 0)) := by
      rw [hf.block _ (by simp) (fun hh => hh)]; exact heap_alloc_new _ _
    exact ⟨by simp [World.cell?, hB], by simp [World.cell?, hB], by simp [World.cell?, hB]⟩
  have HA : Hid (Fr (fun _ => False) w (w.alloc (.cells #[.slice fa nf fc, .int .i64 N, .slice ao nn cap] 66))) := (Fr.refl _ _).alloc _
  have HLe : Hid (∀ w', Fr (fun _ => False) (w.alloc (.cells #[.slice fa nf fc, .int .i64 N, .slice ao nn cap] 66)) w' → Calls Try.prog 24 #[.slice fa nf fc] w' fun e w'' => ∃ g, e = .returned (.slice (some ⟨g, 0, none⟩) nf (nf + 7)) ∧ LentY w'' g B ∧ w'.heap.size ≤ g ∧ Fr (fun _ => False) w' w'') := fun w' f => by
    have h := HB0.out.kept (HA.out.trans f (fun _ _ h => h))
    have h2 := lendY_any _ B w' h.hl h.hf h.hn
    rw [← HNf.out] at h2
    exact h2
  have HBk : Hid (∀ (w' : World) (g : Nat), Fr (fun _ => False) (w.alloc (.cells #[.slice fa nf fc, .int .i64 N, .slice ao nn cap] 66)) w' → LentY w' g B → Calls Try.prog 25 #[.slice (some ⟨g, 0, none⟩) nf (nf + 7), .slice fa nf fc] w' fun e w'' => e = .returned (.bool true) ∧ Fr (fun k => k = g) w' w'') := fun w' g f hl => by
    have h := HB0.out.kept (HA.out.trans f (fun _ _ h => h))
    have h2 := backY_any g _ B w' h.hl hl h.hf
    rw [← HNf.out] at h2
    exact h2
  clear h hb
  by_cases hbad : N < 1 ∨ 131072 < N
  · have HNB : Hid (∀ w' (g : Nat), Calls Try.prog 13 #[.slice (some ⟨g, 0, none⟩) nf (nf + 7), .int .i64 N] w' fun e w'' => e = .returned (.tuple #[.pointer none, .int .i64 40]) ∧ w'' = w') := fun w' g => newDecoder_bad w' _ N ⟨_, _, _, rfl⟩ hbad
    rcases (show N < 1 ∨ (¬ N < 1 ∧ 131072 < N) by omega) with q | ⟨q1, q2⟩
    · have hd : decide (N < 1) = true := decide_eq_true q
      clear hbad q bN
      go_enter Try.func5, Try.ntmps5
      go_wp2_with fail
      generalize w.alloc (.cells #[.slice fa nf fc, .int .i64 N, .slice ao nn cap] 66) = w0 at *
      refine (HLe.out _ (Fr.refl _ _)).mono ?_
      rintro e w1 ⟨g, rfl, hl1, hg1, hf1⟩
      have HL1 : Hid (LentY w1 g B) := hl1
      have HF1 : Hid (Fr (fun _ => False) w0 w1) := hf1
      have HG1 : Hid (w0.heap.size ≤ g) := hg1
      obtain ⟨c0, c1, c2⟩ := HBX.out _ hf1
      clear hl1 hf1 hg1
      go_wp2_with fail
      refine (HNB.out _ g).mono ?_
      rintro e w2 ⟨rfl, hw2⟩
      obtain rfl := hw2.symm
      clear hw2
      go_wp2_with fail
      refine (HBk.out _ g HF1.out HL1.out).mono ?_
      rintro e w3 ⟨rfl, hf3⟩
      have HF3 : Hid (Fr (fun _ => False) w0 w3) := HF1.out.trans hf3 (fun i hi e => by have := HG1.out; omega)
      clear hf3 c0 c1 c2
      obtain ⟨c0, c1, c2⟩ := HBX.out _ HF3.out
      go_wp2_with fail
      refine (wakes_any _).mono ?_
      rintro e w4 ⟨rfl, hf4⟩
      have HF4 : Hid (Fr (fun _ => False) w w4) := HA.out.trans (HF3.out.trans hf4 (fun _ _ h => h)) (fun _ _ h => h)
      clear hf4
      go_wp2_with fail
      go_ret
      exact ⟨rfl, HF4.out⟩
    · have hd : decide (N < 1) = false := decide_eq_false q1
      have hd2 : decide (131072 < N) = true := decide_eq_true q2
      clear hbad q1 q2 bN
      go_enter Try.func5, Try.ntmps5
      go_wp2_with fail
      generalize w.alloc (.cells #[.slice fa nf fc, .int .i64 N, .slice ao nn cap] 66) = w0 at *
      refine (HLe.out _ (Fr.refl _ _)).mono ?_
      rintro e w1 ⟨g, rfl, hl1, hg1, hf1⟩
      have HL1 : Hid (LentY w1 g B) := hl1
      have HF1 : Hid (Fr (fun _ => False) w0 w1) := hf1
      have HG1 : Hid (w0.heap.size ≤ g) := hg1
      obtain ⟨c0, c1, c2⟩ := HBX.out _ hf1
      clear hl1 hf1 hg1
      go_wp2_with fail
      refine (HNB.out _ g).mono ?_
      rintro e w2 ⟨rfl, hw2⟩
      obtain rfl := hw2.symm
      clear hw2
      go_wp2_with fail
      refine (HBk.out _ g HF1.out HL1.out).mono ?_
      rintro e w3 ⟨rfl, hf3⟩
      have HF3 : Hid (Fr (fun _ => False) w0 w3) := HF1.out.trans hf3 (fun i hi e => by have := HG1.out; omega)
      clear hf3 c0 c1 c2
      obtain ⟨c0, c1, c2⟩ := HBX.out _ HF3.out
      go_wp2_with fail
      refine (wakes_any _).mono ?_
      rintro e w4 ⟨rfl, hf4⟩
      have HF4 : Hid (Fr (fun _ => False) w w4) := HA.out.trans (HF3.out.trans hf4 (fun _ _ h => h)) (fun _ _ h => h)
      clear hf4
      go_wp2_with fail
      go_ret
      exact ⟨rfl, HF4.out⟩
  · obtain ⟨n, rfl⟩ : ∃ n : Nat, N = (n : Int) := ⟨N.toNat, by omega⟩
    have HN : Hid (1 ≤ n ∧ n ≤ 131072) := ⟨by omega, by omega⟩
    have hd : decide ((n : Int) < 1) = false := decide_eq_false (by omega)
    have hd2 : decide ((131072 : Int) < (n : Int)) = false := decide_eq_false (by omega)
    have HNw : Hid (∀ (w' : World) (g : Nat), LentY w' g B → Calls Try.prog 13 #[.slice (some ⟨g, 0, none⟩) nf (nf + 7), .int .i64 (n : Int)] w' fun e w'' => ∃ bd gc vb, e = .returned (.tuple #[.pointer (some ⟨bd, 0, none⟩), .int .i64 0]) ∧ DeAt w'' bd gc n vb B (newD B n) ∧ Fr (fun _ => False) w' w'' ∧ w'.heap.size ≤ bd ∧ w'.heap.size ≤ gc ∧ ∀ k, vb.ownBlock = some k → w'.heap.size ≤ k) := fun w' g hl => by
      have s1 := hl.seen HB0.out.hl
      have := newDecoder_any w' _ B n HN.out.1 HN.out.2 s1 (Or.inr ⟨_, _, _, rfl⟩) HB0.out.hB
      rwa [← HNf.out] at this
    have HRw : Hid (∀ w', Fr (fun _ => False) (w.alloc (.cells #[.slice fa nf fc, .int .i64 (n : Int), .slice ao nn cap] 66)) w' → Calls Try.prog 26 #[.slice fa nf fc, .int .i64 (n : Int)] w' fun e w'' => ∃ br gt ct gs gz vr, e = .returned (.pointer (some ⟨br, 0, none⟩)) ∧ RdAt w'' br gt ct gs gz n vr B (newD B n) ∧ Fr (fun _ => False) w' w'' ∧ w'.heap.size ≤ br ∧ w'.heap.size ≤ gt ∧ w'.heap.size ≤ gs ∧ w'.heap.size ≤ gz) := fun w' f => by
      have h := HB0.out.kept (HA.out.trans f (fun _ _ h => h))
      exact rnewD_all w' _ B n HN.out.1 HN.out.2 h.hf h.hnil h.hB
    have HRG : Hid (∀ k, k ≤ 6000 → Eok B (runG n B K k) ∧ (runG n B K k).made = k) := fun k hk => runG_ok HN.out.1 HN.out.2 HB0.out.hB K k (by omega)
    clear bN hbad
    go_enter Try.func5, Try.ntmps5
    go_wp2_with fail
    generalize w.alloc (.cells #[.slice fa nf fc, .int .i64 (n : Int), .slice ao nn cap] 66) = w0 at *
    refine (HLe.out _ (Fr.refl _ _)).mono ?_
    rintro e w1 ⟨g, rfl, hl1, hg1, hf1⟩
    have HL1 : Hid (LentY w1 g B) := hl1
    have HF1 : Hid (Fr (fun _ => False) w0 w1) := hf1
    have HG1 : Hid (w0.heap.size ≤ g ∧ g < w1.heap.size) := ⟨hg1, hl1.lt⟩
    obtain ⟨c0, c1, c2⟩ := HBX.out _ hf1
    clear hl1 hf1 hg1
    go_wp2_with fail
    refine (HNw.out _ g HL1.out).mono ?_
    rintro e w2 ⟨bd, gc, vb, rfl, hd2x, hf2, s1, s2, s3⟩
    have HD2 : Hid (DeAt w2 bd gc n vb B (newD B n)) := hd2x
    have HF2 : Hid (Fr (fun _ => False) w0 w2) := HF1.out.trans hf2 (fun _ _ h => h)
    have HL2 : Hid (LentY w2 g B) := HL1.out.kept hf2 (fun h => h)
    have HS2 : Hid (w1.heap.size ≤ bd ∧ w1.heap.size ≤ gc ∧ ∀ k, vb.ownBlock = some k → w1.heap.size ≤ k) := ⟨s1, s2, s3⟩
    clear hd2x hf2 s1 s2 s3 c0 c1 c2
    obtain ⟨c0, c1, c2⟩ := HBX.out _ HF2.out
    go_wp2_with fail
    refine (HBk.out _ g HF2.out HL2.out).mono ?_
    rintro e w3 ⟨rfl, hf3⟩
    have HF3 : Hid (Fr (fun _ => False) w0 w3) := HF2.out.trans hf3 (fun i hi e => by have := HG1.out; omega)
    have HD3 : Hid (DeAt w3 bd gc n vb B (newD B n)) := by
      have hg := HG1.out
      have hs := HS2.out
      exact HD2.out.kept hf3 (by omega) (by omega) (fun k hk e => by have := hs.2.2 k hk; omega)
    clear hf3 c0 c1 c2
    obtain ⟨c0, c1, c2⟩ := HBX.out _ HF3.out
    have HCx : Hid (∀ w', Fr (fun _ => False) w3 w' → Calls Try.prog 18 #[.pointer (some ⟨bd, 0, none⟩)] w' fun e w'' => e = .returned (.int .i64 (n : Nat)) ∧ w'' = w') := fun w' hf => by
      have h0 := (cell_of_seven (HD3.out.keptAll hf).blk).1
      exact contexts_at w' bd gc n n (by simpa [newD] using h0) HN.out.2
    have HDX : Hid (∀ w', Fr (fun _ => False) w3 w' → w'.cell? ⟨w.heap.size, 0, none⟩ = some (.slice fa nf fc) ∧ w'.cell? ⟨w.heap.size, 1, none⟩ = some (.int .i64 (n : Int)) ∧ w'.cell? ⟨w.heap.size, 2, none⟩ = some (.slice ao nn cap)) := fun w' hf => HBX.out _ (HF3.out.trans hf (fun _ _ h => h))
    have hnen : ((n : Int) != (n : Int)) = false := by simp
    go_wp2_with fail
    go_region_held3 (fun w' => w'.cell? ⟨w.heap.size, 0, none⟩ = some (.slice fa nf fc) ∧ w'.cell? ⟨w.heap.size, 1, none⟩ = some (.int .i64 (n : Int)) ∧ w'.cell? ⟨w.heap.size, 2, none⟩ = some (.slice ao nn cap)) (first | exact HDX.out _ (Fr.refl _ _).drew | exact HDX.out _ (Fr.refl _ _)) (first | (go_at_call 18; refine (HCx.out _ (by first | exact (Fr.refl _ _).drew | exact Fr.refl _ _)).mono ?_; rintro e w4 ⟨rfl, rfl⟩))
    by_cases hbig : 5000 < n
    · have hd3 : decide ((5000 : Int) < (n : Int)) = true := decide_eq_true (by omega)
      go_wp2_with fail
      refine (wakes_any _).mono ?_
      rintro e w9 ⟨rfl, hf9⟩
      have HF9 : Hid (Fr (fun _ => False) w w9) := HA.out.trans (HF3.out.trans ((Fr.refl _ _).drew.trans hf9 (fun _ _ h => h)) (fun _ _ h => h)) (fun _ _ h => h)
      clear hf9
      go_wp2_with fail
      go_ret
      exact ⟨rfl, HF9.out⟩
    · have hd3 : decide ((5000 : Int) < (n : Int)) = false := decide_eq_false (by omega)
      go_wp2_with fail
      refine (HRw.out _ HF3.out.drew).mono ?_
      rintro e w5 ⟨br, gt, ct, gs, gz, vr, rfl, hr5, hf5, t1, t2, t3, t4⟩
      have hf35 : Fr (fun _ => False) w3 w5 := (Fr.refl (fun _ => False) w3).drew.trans hf5 (fun _ _ h => h)
      have HPr0 : Hid (Pd w0 w5 bd gc vb br gt ct gs gz n vr B (runG n B K 0)) := ⟨HD3.out.keptAll hf35, hr5, HF3.out.trans hf35 (fun _ _ h => h)⟩
      have HSp : Hid (Sep w0 bd gc vb br gt gs gz vr) := by
        have hg := HG1.out
        have hs := HS2.out
        have x1 := HD3.out.lt
        have x2 := HD3.out.xlt
        have z1 := HF3.out.size
        have t1' : w3.heap.size ≤ br := t1
        have t2' : w3.heap.size ≤ gt := t2
        have t3' : w3.heap.size ≤ gs := t3
        have t4' : w3.heap.size ≤ gz := t4
        have hd5 := HPr0.out.de
        exact ⟨by omega, by omega, by omega, by omega, by omega, ⟨by omega, by omega, by omega, by omega⟩, ⟨by omega, by omega, by omega, by omega⟩, fun k hk => by have := (HD3.out.bs.lt k hk).2; omega, fun k hk => ⟨row_nb hr5.bs hk hd5.blk (by decide), row_ne hr5.bs hd5.xs hk rfl (by decide)⟩⟩
      clear hr5 hf5 hf35 t1 t2 t3 t4 HD2 HD3 HF1 HF2 HF3 HL1 HL2 HS2 HG1 HCx HDX HLe HBk HNw HRw c0 c1 c2
      go_wp2_with fail
      go_loopw [7, 8, 9, 10, 11] (fun i _ _ _ _ wr => ∃ (k : Nat), k ≤ nn ∧ k ≤ 6000 ∧ i = .int .i64 k ∧ Pd w0 wr bd gc vb br gt ct gs gz n vr B (runG n B K k)) (fun i _ _ _ _ _ => 6000 - (intOf i).toNat)
      case atStart => exact ⟨0, Nat.zero_le _, Nat.zero_le _, rfl, HPr0.out⟩
      case round =>
        obtain ⟨k, hk, hk6, rfl, hpr⟩ := hrel
        have HPk : Hid (Pd w0 wr bd gc vb br gt ct gs gz n vr B (runG n B K k)) := hpr
        obtain ⟨c0, c1, c2⟩ := HBX.out _ hpr.fr
        clear hpr
        by_cases hlt : k < nn ∧ k < 6000
        · obtain ⟨ha, hb⟩ := hlt
          have hda : decide (k < nn) = true := decide_eq_true ha
          have hdb : decide ((k : Int) < 6000) = true := decide_eq_true (by omega)
          obtain ⟨bL, oL, eL, hcc⟩ := (HD.out.kept (HA.out.trans HPk.out.fr (fun _ _ hh => hh))).cells (by omega)
          subst eL
          have HLk : Hid (∀ w', Fr (fun _ => False) w0 w' → w'.cell? ⟨bL, oL + k, none⟩ = some (.int .i64 (K k))) := fun w' hf => by
            obtain ⟨b2, o2, e2, h2⟩ := (HD.out.kept (HA.out.trans hf (fun _ _ hh => hh))).cells (by omega)
            cases e2
            exact h2 k ha
          clear hcc
          have bK := HD.out.bd k ha
          have HOk : Hid (Eok B (runG n B K k) ∧ (runG n B K k).made < 16777216) := ⟨(HRG.out k (by omega)).1, by have := (HRG.out k (by omega)).2; omega⟩
          have HO1 : Hid (Eok B (runG n B K (k + 1))) := (HRG.out (k + 1) (by omega)).1
          have HP1 : Hid (∀ w', DeAt w' bd gc n vb B (runG n B K k) → Calls Try.prog 15 #[.pointer (some ⟨bd, 0, none⟩), .int .i64 (K k)] w' fun e w'' => e = .returned (.tuple #[.int .i64 (getBit (runG n B K k) (K k) : Nat), .int .i64 0]) ∧ DeAt w'' bd gc n vb B (runG n B K (k + 1)) ∧ DStep bd gc w' w'') := fun w' hp => get_any w' bd gc n vb B _ hp HOk.out.1 HOk.out.2 (K k) bK
          have HP2 : Hid (∀ w', RdAt w' br gt ct gs gz n vr B (runG n B K k) → Calls Try.prog 27 #[.pointer (some ⟨br, 0, none⟩), .int .i64 (K k)] w' fun e w'' => e = .returned (.tuple #[.int .i64 (getBit (runG n B K k) (K k) : Nat), .int .i64 0]) ∧ RdAt w'' br gt ct gs gz n vr B (runG n B K (k + 1)) ∧ Fr (fun k => k = br ∨ k = gs ∨ k = gz) w' w'') := fun w' hp => rget_any w' br gt ct gs gz n vr B _ hp HOk.out.1 HOk.out.2 (K k) bK
          generalize getBit (runG n B K k) (K k) = bit at *
          clear bK
          generalize K k = kk at *
          have HS : Hid (∀ w', Fr (fun _ => False) w0 w' → (w'.cell? ⟨w.heap.size, 0, none⟩ = some (.slice fa nf fc) ∧ w'.cell? ⟨w.heap.size, 1, none⟩ = some (.int .i64 (n : Int)) ∧ w'.cell? ⟨w.heap.size, 2, none⟩ = some (.slice (some ⟨bL, oL, none⟩) nn cap)) ∧ w'.cell? ⟨bL, oL + k, none⟩ = some (.int .i64 kk)) := fun w' hf => ⟨HBX.out _ hf, HLk.out _ hf⟩
          have hk0 : (0 : Int) ≤ (k : Int) := by omega
          have hkn : (k : Int) < (nn : Int) := by omega
          have e97 : (k : Int).tmod 97 = (k : Int) % 97 := Int.tmod_eq_emod_of_nonneg (by omega)
          have w97 : IntKind.i64.wrap ((k : Int) % 97) = (k : Int) % 97 := by rw [IntKind.wrap_i64]; omega
          have hbb : ((bit : Int) != (bit : Int)) = false := by simp
          clear c0 c1 c2
          obtain ⟨⟨c0, c1, c2⟩, cK⟩ := HS.out _ HPk.out.fr
          go_wp2_with fail
          refine (HP1.out _ HPk.out.de).mono ?_
          rintro e w5 ⟨rfl, hd5, hs5⟩
          have hst := HPk.out.step HSp.out hs5
          have HD5 : Hid (DeAt w5 bd gc n vb B (runG n B K (k + 1))) := hd5
          have HR5 : Hid (RdAt w5 br gt ct gs gz n vr B (runG n B K k) ∧ Fr (fun _ => False) w0 w5) := hst
          clear hd5 hs5 hst c0 c1 c2 cK
          obtain ⟨⟨c0, c1, c2⟩, cK⟩ := HS.out _ HR5.out.2
          go_wp2_with fail
          refine (HP2.out _ HR5.out.1).mono ?_
          rintro e w6 ⟨rfl, hr6, hs6⟩
          have HP6 : Hid (Pd w0 w6 bd gc vb br gt ct gs gz n vr B (runG n B K (k + 1))) := Pd.step2 HD5.out HR5.out.2 hr6 HSp.out hs6
          clear hr6 hs6 c0 c1 c2 cK
          obtain ⟨⟨c0, c1, c2⟩, cK⟩ := HS.out _ HP6.out.fr
          by_cases h97 : k % 97 = 0
          · have hq : (((k : Int) % 97) == 0) = true := by simp; omega
            have HS1 : Hid (∀ w', Fr (fun _ => False) w6 w' → Calls Try.prog 16 #[.pointer (some ⟨bd, 0, none⟩)] w' fun e w'' => ∃ g, e = .returned (.slice (some ⟨g, 0, none⟩) n n) ∧ SeenAt w'' (.slice (some ⟨g, 0, none⟩) n n) (runG n B K (k + 1)).x ∧ Fr (fun _ => False) w' w'') := fun w' f => (HP6.out.kept f).states1 HN.out.1 HN.out.2
            have HS2 : Hid (∀ w', Fr (fun _ => False) w6 w' → Calls Try.prog 21 #[.pointer (some ⟨br, 0, none⟩)] w' fun e w'' => ∃ g c, e = .returned (.slice (some ⟨g, 0, none⟩) n c) ∧ SeenAt w'' (.slice (some ⟨g, 0, none⟩) n c) (runG n B K (k + 1)).x ∧ Fr (fun _ => False) w' w'') := fun w' f => (HP6.out.kept f).states2 HO1.out HN.out.1 HN.out.2
            go_wp2_with fail
            go_region_held3 (fun _ => True) (trivial) (first | (go_at_call 16; refine (HS1.out _ (by repeat (first | with_reducible exact Fr.refl _ _ | with_reducible refine Fr.drew ?_))).mono ?_; rintro e w7 ⟨g7, rfl, hs7, hf7⟩) | (go_at_call 21; refine (HS2.out _ (by repeat (first | with_reducible exact Fr.refl _ _ | with_reducible refine Fr.drew ?_ | with_reducible refine Fr.trans ?_ hf7 (fun _ _ hh => hh)))).mono ?_; rintro e w8 ⟨g8, c8, rfl, hs8, hf8⟩) | (go_at_call 14; refine (eq_same _ _ _ _ _ (hs7.keptF hf8) hs8 rfl true (by show true = _; simp)).mono ?_; rintro e wB ⟨rfl, qB, hwB⟩))
            subst hwB
            have HFB : Hid (Fr (fun _ => False) w6 (w8.drewN qB)) := ((((Fr.refl (fun _ => False) w6).drew.trans hf7 (fun _ _ hh => hh)).trans hf8 (fun _ _ hh => hh))).drewN qB
            clear hf7 hf8 hs7 hs8
            generalize w8.drewN qB = wB at *
            go_wp2_with fail
            go_roundw
            case rel => exact ⟨k + 1, by omega, by omega, congrArg (Value.int .i64) (by omega), HP6.out.kept HFB.out⟩
            case measure => simp [intOf]; omega
          · have hq : (((k : Int) % 97) == 0) = false := by simp; omega
            go_wp2_with fail
            go_quiet (fail)
            go_wp2_with fail
            go_roundw
            case rel => exact ⟨k + 1, by omega, by omega, congrArg (Value.int .i64) (by omega), HP6.out.kept ((Fr.refl _ _).drewN _)⟩
            case measure => simp [intOf]; omega
        · have HO1 : Hid (Eok B (runG n B K k)) := (HRG.out k (by omega)).1
          have HS1 : Hid (∀ w', Fr (fun _ => False) wr w' → Calls Try.prog 16 #[.pointer (some ⟨bd, 0, none⟩)] w' fun e w'' => ∃ g, e = .returned (.slice (some ⟨g, 0, none⟩) n n) ∧ SeenAt w'' (.slice (some ⟨g, 0, none⟩) n n) (runG n B K k).x ∧ Fr (fun _ => False) w' w'') := fun w' f => (HPk.out.kept f).states1 HN.out.1 HN.out.2
          have HS2 : Hid (∀ w', Fr (fun _ => False) wr w' → Calls Try.prog 21 #[.pointer (some ⟨br, 0, none⟩)] w' fun e w'' => ∃ g c, e = .returned (.slice (some ⟨g, 0, none⟩) n c) ∧ SeenAt w'' (.slice (some ⟨g, 0, none⟩) n c) (runG n B K k).x ∧ Fr (fun _ => False) w' w'') := fun w' f => (HPk.out.kept f).states2 HO1.out HN.out.1 HN.out.2
          rcases (show ¬ k < nn ∨ (k < nn ∧ ¬ k < 6000) by omega) with q | ⟨q1, q2⟩
          · have hda : decide (k < nn) = false := decide_eq_false q
            go_wp2_with fail
            go_region_held3 (fun _ => True) (trivial) (first | (go_at_call 16; refine (HS1.out _ (by repeat (first | with_reducible exact Fr.refl _ _ | with_reducible refine Fr.drew ?_))).mono ?_; rintro e w7 ⟨g7, rfl, hs7, hf7⟩) | (go_at_call 21; refine (HS2.out _ (by repeat (first | with_reducible exact Fr.refl _ _ | with_reducible refine Fr.drew ?_ | with_reducible refine Fr.trans ?_ hf7 (fun _ _ hh => hh)))).mono ?_; rintro e w8 ⟨g8, c8, rfl, hs8, hf8⟩) | (go_at_call 14; refine (eq_same _ _ _ _ _ (hs7.keptF hf8) hs8 rfl true (by show true = _; simp)).mono ?_; rintro e wB ⟨rfl, qB, hwB⟩) | (go_at_call 17; refine (wakes_any _).mono ?_; rintro e w9 ⟨rfl, hf9⟩))
            have HF9 : Hid (Fr (fun _ => False) w w9) := by
              exact HA.out.trans (HPk.out.fr.trans ((((((Fr.refl (fun _ => False) wr).drew.trans hf7 (fun _ _ hh => hh)).trans hf8 (fun _ _ hh => hh))).drewN qB).trans hf9 (fun _ _ h => h)) (fun _ _ h => h)) (fun _ _ h => h)
            clear hf7 hf8 hs7 hs8 hf9
            go_wp2_with fail
            go_ret
            exact ⟨rfl, HF9.out⟩
          · have hda : decide (k < nn) = true := decide_eq_true q1
            have hdb : decide ((k : Int) < 6000) = false := decide_eq_false (by omega)
            go_wp2_with fail
            go_region_held3 (fun _ => True) (trivial) (first | (go_at_call 16; refine (HS1.out _ (by repeat (first | with_reducible exact Fr.refl _ _ | with_reducible refine Fr.drew ?_))).mono ?_; rintro e w7 ⟨g7, rfl, hs7, hf7⟩) | (go_at_call 21; refine (HS2.out _ (by repeat (first | with_reducible exact Fr.refl _ _ | with_reducible refine Fr.drew ?_ | with_reducible refine Fr.trans ?_ hf7 (fun _ _ hh => hh)))).mono ?_; rintro e w8 ⟨g8, c8, rfl, hs8, hf8⟩) | (go_at_call 14; refine (eq_same _ _ _ _ _ (hs7.keptF hf8) hs8 rfl true (by show true = _; simp)).mono ?_; rintro e wB ⟨rfl, qB, hwB⟩) | (go_at_call 17; refine (wakes_any _).mono ?_; rintro e w9 ⟨rfl, hf9⟩))
            have HF9 : Hid (Fr (fun _ => False) w w9) := by
              exact HA.out.trans (HPk.out.fr.trans ((((((Fr.refl (fun _ => False) wr).drew.trans hf7 (fun _ _ hh => hh)).trans hf8 (fun _ _ hh => hh))).drewN qB).trans hf9 (fun _ _ h => h)) (fun _ _ h => h)) (fun _ _ h => h)
            clear hf7 hf8 hs7 hs8 hf9
            go_wp2_with fail
            go_ret
            exact ⟨rfl, HF9.out⟩

end Go.Proofs.Ytdbblgceeclpaaa
