/- The law 'ArithCodes'. -/
import Derived.Deep.RegionHeld3
import Derived.Test.YtdbblgceeclpaaaPr
import Derived.Test.YtdbblgceeclpaaaFlF
import Derived.Test.YtdbblgceeclpaaaReT
import Derived.Test.YtdbblgceeclpaaaWakes
import Derived.Test.YtdbblgceeclpaaaEq
import Derived.Test.YtdbblgceeclpaaaStates
namespace Go.Proofs.Ytdbblgceeclpaaa
open Go.RowKit

theorem seenAt_kept {w w' : World} {g o n c : Nat} {l : List Nat} {S : Nat → Prop} (h : SeenAt w (.slice (some ⟨g, o, none⟩) n c) l) (f : Fr S w w') (hs : ¬ S g) : SeenAt w' (.slice (some ⟨g, o, none⟩) n c) l := by
  obtain ⟨ao, cap, e, h1, h2⟩ := h
  refine ⟨ao, cap, e, h1, fun hn => ?_⟩
  obtain ⟨b, off, e2, h3⟩ := h2 hn
  subst e2
  simp only [Value.slice.injEq, Option.some.injEq, Addr.mk.injEq] at e
  obtain ⟨⟨rfl, rfl, _⟩, _⟩ := e
  exact ⟨_, _, rfl, fun j hj => f.cell (h3 j hj) hs⟩
theorem flushP_len (s : Cs) : (flushP s).length ≤ s.b.length + 2 := by
  have h : (flush2 s).b.length = s.b.length + 2 := by simp [flush2, flush1, outP]
  unfold flushP
  split <;> simp <;> omega
theorem Free.kept {w w' : World} {g off cap : Nat} {S : Nat → Prop} (h : Free w g off cap) (hg : g < w.heap.size) (f : Fr S w w') (hs : ¬ S g) : Free w' g off cap := fun j hj => by
  obtain ⟨⟨x, hx⟩, hf⟩ := h j hj
  exact ⟨⟨x, f.cell hx hs⟩, f.frozen hg hf hs⟩
theorem seen_of {w : World} {v : Value} {x : List Nat} {n : Nat} (hx : x.length = n) (h : w.ownsRow 0 5 1 v n (byteCells x)) (hl : n ≤ 140737488355328) : SeenAt w v x := by subst hx; exact SeenAt.of_row h hl

set_option maxRecDepth 100000 in
set_option maxHeartbeats 400000000 in
theorem codes_any (N : Int) (bN : -9223372036854775808 ≤ N ∧ N ≤ 9223372036854775807) (ao : Option Addr) (nn cap : Nat) (K D : Nat → Int) (w : World) (h : DecsAt w ao nn K D) :
    Calls Try.prog 4 #[.agg #[.int .i64 N, .slice ao nn cap]] w fun e w' => e = .returned (.bool true) ∧ Fr (fun _ => False) w w' := by
  have hnn := h.lim
  have HD : Hid (DecsAt w ao nn K D) := h
  have HBX : Hid (∀ w', Fr (fun _ => False) (w.alloc (.cells #[.int .i64 N, .slice ao nn cap] 51)) w' → w'.cell? ⟨w.heap.size, 0, none⟩ = some (.int .i64 N) ∧ w'.cell? ⟨w.heap.size, 1, none⟩ = some (.slice ao nn cap)) := fun w' hf => by
    have hB : w'.heap[w.heap.size]? = some (.cells #[.int .i64 N, .slice ao nn cap] 51 (0, 0)) := by
      rw [hf.block _ (by simp) (fun hh => hh)]; exact heap_alloc_new _ _
    exact ⟨by simp [World.cell?, hB], by simp [World.cell?, hB]⟩
  have HA : Hid (Fr (fun _ => False) w (w.alloc (.cells #[.int .i64 N, .slice ao nn cap] 51))) := (Fr.refl _ _).alloc _
  clear h
  by_cases hbad : N < 1 ∨ 131072 < N
  · have HNB : Hid (∀ w', Calls Try.prog 10 #[.int .i64 N] w' fun e w'' => e = .returned (.tuple #[.pointer none, .int .i64 40]) ∧ w'' = w') := fun w' => new_bad w' N hbad
    rcases (show N < 1 ∨ (¬ N < 1 ∧ 131072 < N) by omega) with q | ⟨q1, q2⟩
    · have hd : decide (N < 1) = true := decide_eq_true q
      clear hbad q bN
      go_enter Try.func4, Try.ntmps4
      go_wp2_with fail
      generalize w.alloc (.cells #[.int .i64 N, .slice ao nn cap] 51) = w0 at *
      obtain ⟨c0, c1⟩ := HBX.out _ (Fr.refl _ _)
      refine (HNB.out _).mono ?_
      rintro e w1 ⟨rfl, hw1⟩
      obtain rfl := hw1.symm
      go_wp2_with fail
      refine (wakes_any _).mono ?_
      rintro e w2 ⟨rfl, hf2⟩
      have HF2 : Hid (Fr (fun _ => False) w w2) := HA.out.trans hf2 (fun _ _ h => h)
      clear hf2
      go_wp2_with fail
      go_ret
      exact ⟨rfl, HF2.out⟩
    · have hd : decide (N < 1) = false := decide_eq_false q1
      have hd2 : decide (131072 < N) = true := decide_eq_true q2
      clear hbad q1 q2 bN
      go_enter Try.func4, Try.ntmps4
      go_wp2_with fail
      generalize w.alloc (.cells #[.int .i64 N, .slice ao nn cap] 51) = w0 at *
      obtain ⟨c0, c1⟩ := HBX.out _ (Fr.refl _ _)
      refine (HNB.out _).mono ?_
      rintro e w1 ⟨rfl, hw1⟩
      obtain rfl := hw1.symm
      go_wp2_with fail
      refine (wakes_any _).mono ?_
      rintro e w2 ⟨rfl, hf2⟩
      have HF2 : Hid (Fr (fun _ => False) w w2) := HA.out.trans hf2 (fun _ _ h => h)
      clear hf2
      go_wp2_with fail
      go_ret
      exact ⟨rfl, HF2.out⟩
  · obtain ⟨n, rfl⟩ : ∃ n : Nat, N = (n : Int) := ⟨N.toNat, by omega⟩
    have HN : Hid (1 ≤ n ∧ n ≤ 131072) := ⟨by omega, by omega⟩
    have hd : decide ((n : Int) < 1) = false := decide_eq_false (by omega)
    have hd2 : decide ((131072 : Int) < (n : Int)) = false := decide_eq_false (by omega)
    clear bN hbad
    go_enter Try.func4, Try.ntmps4
    go_wp2_with fail
    generalize w.alloc (.cells #[.int .i64 (n : Int), .slice ao nn cap] 51) = w0 at *
    refine (new_any w0 n HN.out.1 HN.out.2).mono ?_
    rintro e w1 ⟨bc, gc, gb, rfl, hc1, hf1, s1, s2, s3⟩
    have HC1 : Hid (CoAt w1 bc gc n gb 1 (newP n)) := hc1
    have HF1 : Hid (Fr (fun _ => False) w0 w1) := hf1
    have HS1 : Hid (w0.heap.size ≤ bc ∧ w0.heap.size ≤ gc ∧ w0.heap.size ≤ gb) := ⟨s1, s2, s3⟩
    obtain ⟨c0, c1⟩ := HBX.out _ hf1
    have HCx : Hid (∀ w', Fr (fun _ => False) w1 w' → Calls Try.prog 18 #[.pointer (some ⟨bc, 0, none⟩)] w' fun e w'' => e = .returned (.int .i64 (n : Nat)) ∧ w'' = w') := fun w' hf => by
      have h := (HC1.out.kept hf (fun h => h) (fun h => h) (fun h => h)).blk
      have h0 := (cell_of_seven h).1
      exact contexts_at w' bc gc n n (by simpa [newP] using h0) HN.out.2
    have HD1 : Hid (∀ w', Fr (fun _ => False) w1 w' → w'.cell? ⟨w.heap.size, 0, none⟩ = some (.int .i64 (n : Int)) ∧ w'.cell? ⟨w.heap.size, 1, none⟩ = some (.slice ao nn cap)) := fun w' hf => HBX.out _ (HF1.out.trans hf (fun _ _ h => h))
    have hnen : ((n : Int) != (n : Int)) = false := by simp
    clear hc1 hf1 s1 s2 s3
    go_wp2_with fail
    go_region_held3 (fun w' => w'.cell? ⟨w.heap.size, 0, none⟩ = some (.int .i64 (n : Int)) ∧ w'.cell? ⟨w.heap.size, 1, none⟩ = some (.slice ao nn cap)) (first | exact HD1.out _ (Fr.refl _ _).drew | exact HD1.out _ (Fr.refl _ _)) (first | (go_at_call 18; refine (HCx.out _ (by first | exact (Fr.refl _ _).drew | exact Fr.refl _ _)).mono ?_; rintro e w2 ⟨rfl, rfl⟩))
    by_cases hbig : 5000 < n
    · have hd3 : decide ((5000 : Int) < (n : Int)) = true := decide_eq_true (by omega)
      go_wp2_with fail
      refine (wakes_any _).mono ?_
      rintro e w9 ⟨rfl, hf9⟩
      have HF9 : Hid (Fr (fun _ => False) w w9) := HA.out.trans (HF1.out.trans ((Fr.refl _ _).drew.trans hf9 (fun _ _ h => h)) (fun _ _ h => h)) (fun _ _ h => h)
      clear hf9
      go_wp2_with fail
      go_ret
      exact ⟨rfl, HF9.out⟩
    · have hd3 : decide ((5000 : Int) < (n : Int)) = false := decide_eq_false (by omega)
      go_wp2_with fail
      refine (rnew_any _ n HN.out.1 HN.out.2).mono ?_
      rintro e w3 ⟨br, gt, ct, gs, gz, gq, rfl, hr3, hf3, t1, t2, t3, t4, t5⟩
      have hf13 : Fr (fun _ => False) w1 w3 := (Fr.refl (fun _ => False) w1).drew.trans hf3 (fun _ _ h => h)
      have HPr0 : Hid (Pr w0 w3 bc gc n gb 1 br gt ct gs gz n gq 1 (runS n K D 0)) := by
        have x1 := HC1.out.lt
        have x2 := HC1.out.xlt
        have x3 := HC1.out.blt
        have hs := HS1.out
        have z1 := HF1.out.size
        have t1' : w1.heap.size ≤ br := t1
        have t2' : w1.heap.size ≤ gt := t2
        have t3' : w1.heap.size ≤ gs := t3
        have t4' : w1.heap.size ≤ gz := t4
        have t5' : w1.heap.size ≤ gq := t5
        exact ⟨HC1.out.kept hf13 (fun hh => hh) (fun hh => hh) (fun hh => hh), hr3, HF1.out.trans hf13 (fun _ _ hh => hh), ⟨hs.1, hs.2.1, hs.2.2, by omega, by omega, by omega, by omega⟩, ⟨⟨by omega, by omega, by omega, by omega, by omega⟩, ⟨by omega, by omega, by omega, by omega, by omega⟩, ⟨by omega, by omega, by omega, by omega, by omega⟩⟩⟩
      clear hr3 hf3 hf13 t1 t2 t3 t4 t5 HC1 HF1 HS1 HCx HD1 c0 c1
      go_wp2_with fail
      go_loopw [6, 7] (fun i _ wr => ∃ (k gb cb gq cq : Nat), k ≤ nn ∧ k ≤ 6000 ∧ i = .int .i64 k ∧ Pr w0 wr bc gc n gb cb br gt ct gs gz n gq cq (runS n K D k)) (fun i _ _ => 6000 - (intOf i).toNat)
      case atStart => exact ⟨0, gb, 1, gq, 1, Nat.zero_le _, Nat.zero_le _, rfl, HPr0.out⟩
      case round =>
        obtain ⟨k, gbk, cbk, gqk, cqk, hk, hk6, rfl, hpr⟩ := hrel
        have HPk : Hid (Pr w0 wr bc gc n gbk cbk br gt ct gs gz n gqk cqk (runS n K D k)) := hpr
        obtain ⟨c0, c1⟩ := HBX.out _ hpr.fr
        clear hpr
        by_cases hlt : k < nn ∧ k < 6000
        · obtain ⟨ha, hb⟩ := hlt
          have hda : decide (k < nn) = true := decide_eq_true ha
          have hdb : decide ((k : Int) < 6000) = true := decide_eq_true (by omega)
          obtain ⟨bL, oL, eL, hcc⟩ := (HD.out.kept (HA.out.trans HPk.out.fr (fun _ _ hh => hh))).at_ (by omega)
          subst eL
          have HLk : Hid (∀ w', Fr (fun _ => False) w0 w' → w'.cell? ⟨bL, oL + k * 2, none⟩ = some (.int .i64 (K k)) ∧ w'.cell? ⟨bL, oL + k * 2 + 1, none⟩ = some (.int .i64 (D k))) := fun w' hf => by
            obtain ⟨b2, o2, e2, h2⟩ := (HD.out.kept (HA.out.trans hf (fun _ _ hh => hh))).at_ (by omega)
            cases e2
            obtain ⟨h3, h4⟩ := h2 k ha
            rw [Nat.add_zero] at h3
            exact ⟨h3, h4⟩
          clear hcc
          obtain ⟨bK, bD⟩ := HD.out.bd k ha
          obtain ⟨ok1, ok2, ok3⟩ := runS_ok HN.out.1 HN.out.2 K D k (by omega)
          have HOk : Hid (Ook (runS n K D k) ∧ (runS n K D k).made < 16777216) := ⟨ok1, by omega⟩
          have HRS : Hid (runS n K D (k + 1) = if D k = 0 ∨ D k = 1 then putP (runS n K D k) (K k) (D k).toNat else runS n K D k) := rfl
          have HBK : Hid (-9223372036854775808 ≤ K k ∧ K k ≤ 9223372036854775807) := bK
          clear bK bD ok1 ok2 ok3
          generalize K k = kk at *
          generalize D k = dd at *
          have HS : Hid (∀ w', Fr (fun _ => False) w0 w' → w'.cell? ⟨w.heap.size, 0, none⟩ = some (.int .i64 (n : Int)) ∧ w'.cell? ⟨w.heap.size, 1, none⟩ = some (.slice (some ⟨bL, oL, none⟩) nn cap) ∧ w'.cell? ⟨bL, oL + k * 2, none⟩ = some (.int .i64 kk) ∧ w'.cell? ⟨bL, oL + k * 2 + 1, none⟩ = some (.int .i64 dd)) := fun w' hf => by
            obtain ⟨a0, a1⟩ := HBX.out _ hf
            obtain ⟨a2, a3⟩ := HLk.out _ hf
            exact ⟨a0, a1, a2, a3⟩
          have hk0 : (0 : Int) ≤ (k : Int) := by omega
          have hkn : (k : Int) < (nn : Int) := by omega
          have e97 : (k : Int).tmod 97 = (k : Int) % 97 := Int.tmod_eq_emod_of_nonneg (by omega)
          have w97 : IntKind.i64.wrap ((k : Int) % 97) = (k : Int) % 97 := by rw [IntKind.wrap_i64]; omega
          clear c0 c1
          obtain ⟨c0, c1, cK, cD⟩ := HS.out _ HPk.out.fr
          by_cases hbit : dd = 0 ∨ dd = 1
          · obtain ⟨bit, hb2, hbl⟩ : ∃ bit : Nat, dd = (bit : Int) ∧ bit < 2 := ⟨dd.toNat, by omega, by omega⟩
            have HNx : Hid (runS n K D (k + 1) = putP (runS n K D k) kk bit) := by show _ = _; rw [HRS.out, if_pos hbit, hb2]; rfl
            have HP1 : Hid (∀ w', Pr w0 w' bc gc n gbk cbk br gt ct gs gz n gqk cqk (runS n K D k) → Calls Try.prog 11 #[.pointer (some ⟨bc, 0, none⟩), .int .i64 kk, .int .i64 dd] w' fun e w'' => e = .returned (.int .i64 0) ∧ ∃ gb' cb', CoAt w'' bc gc n gb' cb' (runS n K D (k + 1)) ∧ CStep bc gc gbk gb' w' w'') := fun w' hp => by
              rw [hb2, HNx.out]
              exact put_any w' bc gc n gbk cbk _ hp.co HOk.out.1 HOk.out.2 kk HBK.out bit hbl
            have HP2 : Hid (∀ w', ReAt w' br gt ct gs gz n gqk cqk (runS n K D k) false → Calls Try.prog 20 #[.pointer (some ⟨br, 0, none⟩), .int .i64 kk, .int .i64 dd] w' fun e w'' => e = .returned (.int .i64 0) ∧ ∃ gq' cq', ReAt w'' br gt ct gs gz n gq' cq' (runS n K D (k + 1)) false ∧ RStep br gs gz gqk gq' w' w'') := fun w' hp => by
              rw [hb2, HNx.out]
              exact rput_any w' br gt ct gs gz n gqk cqk _ hp HOk.out.1 HOk.out.2 kk HBK.out bit hbl
            clear hbit hb2
            go_wp2_with fail
            go_region_held3 (fun w' => w'.cell? ⟨w.heap.size, 0, none⟩ = some (.int .i64 (n : Int)) ∧ w'.cell? ⟨w.heap.size, 1, none⟩ = some (.slice (some ⟨bL, oL, none⟩) nn cap) ∧ w'.cell? ⟨bL, oL + k * 2, none⟩ = some (.int .i64 kk) ∧ w'.cell? ⟨bL, oL + k * 2 + 1, none⟩ = some (.int .i64 dd)) (first | exact HS.out _ HPk.out.fr.drew | exact HS.out _ HF6.out | exact HS.out _ HF5.out | exact HS.out _ HPk.out.fr) (first | (go_at_call 11; refine (HP1.out _ (HPk.out.kept (by first | exact (Fr.refl _ _).drew | exact Fr.refl _ _))).mono ?_; rintro e w5 ⟨rfl, gb5, cb5, hc5, hs5⟩; have hst := (HPk.out.kept (Fr.refl (fun _ => False) wr).drew).step1 hs5; have HF5 : Hid (Fr (fun _ => False) w0 w5) := hst.2.1; have HRE5 : Hid (ReAt w5 br gt ct gs gz n gqk cqk (runS n K D k) false) := hst.1; have HAp : Hid (w0.heap.size ≤ gb5 ∧ Apart3 bc gc gb5 br gt gs gz gqk) := hst.2.2; have HC5 : Hid (CoAt w5 bc gc n gb5 cb5 (runS n K D (k + 1))) := hc5; clear hc5 hs5 hst) | (go_at_call 20; refine (HP2.out _ HRE5.out).mono ?_; rintro e w6 ⟨rfl, gq6, cq6, hr6, hs6⟩; have HP6 : Hid (Pr w0 w6 bc gc n gb5 cb5 br gt ct gs gz n gq6 cq6 (runS n K D (k + 1))) := Pr.step2 HC5.out HF5.out ⟨HPk.out.big.1, HPk.out.big.2.1, HAp.out.1, HPk.out.big.2.2.2⟩ HAp.out.2 hr6 hs6; have HF6 : Hid (Fr (fun _ => False) w0 w6) := HP6.out.fr; clear hr6 hs6))
            have HX : Hid (Ook (runS n K D (k + 1)) ∧ (runS n K D (k + 1)).x.length = n) := ⟨(runS_ok HN.out.1 HN.out.2 K D (k + 1) (by omega)).1, (runS_ok HN.out.1 HN.out.2 K D (k + 1) (by omega)).2.2⟩
            by_cases h97 : k % 97 = 0
            · have hq : (((k : Int) % 97) == 0) = true := by simp; omega
              have HSt : Hid (Calls Try.prog 16 #[.pointer (some ⟨bc, 0, none⟩)] w6 fun e w' => ∃ g, e = .returned (.slice (some ⟨g, 0, none⟩) n n) ∧ w'.ownsRow 0 5 1 (.slice (some ⟨g, 0, none⟩) n n) n (byteCells (runS n K D (k + 1)).x) ∧ Fr (fun _ => False) w6 w' ∧ w6.heap.size ≤ g) := by
                have hc := HP6.out.co
                have h := states_at w6 bc gc n (runS n K D (k + 1)).x (by rw [HX.out.2]; exact HN.out.1) (by rw [HX.out.2]; exact HN.out.2) (cell_of_seven hc.blk).1 hc.xs
                rwa [HX.out.2] at h
              clear c0 c1 cK cD
              go_wp2_with fail
              refine HSt.out.mono ?_
              rintro e w7 ⟨g7, rfl, ho7, hf7, hg7⟩
              have HO7 : Hid (∀ w', Fr (fun _ => False) w7 w' → w'.ownsRow 0 5 1 (.slice (some ⟨g7, 0, none⟩) n n) n (byteCells (runS n K D (k + 1)).x)) := fun w' hf => row_kept1 ho7 hf (fun h => h)
              have HF7 : Hid (Fr (fun _ => False) w6 w7) := hf7
              have HG7 : Hid (w6.heap.size ≤ g7) := hg7
              clear ho7 hf7 hg7
              have HSr : Hid (Calls Try.prog 21 #[.pointer (some ⟨br, 0, none⟩)] w7 fun e w' => ∃ g c, e = .returned (.slice (some ⟨g, 0, none⟩) n c) ∧ w'.ownsRow 0 5 1 (.slice (some ⟨g, 0, none⟩) n c) n (byteCells (runS n K D (k + 1)).x) ∧ Fr (fun _ => False) w7 w') := by
                refine (rstates_at w7 br gt ct gs gz n gq6 cq6 _ false (HP6.out.kept HF7.out).re HN.out.1 HN.out.2 HX.out.1.cells).mono ?_
                rintro e w' ⟨rv, rfl, h2, h3, _⟩
                obtain ⟨g, c, rfl, _⟩ := h2.form HN.out.1
                exact ⟨g, c, rfl, h2, h3⟩
              go_wp2_with fail
              refine HSr.out.mono ?_
              rintro e w8 ⟨g8, c8, rfl, ho8, hf8⟩
              have HF8 : Hid (Fr (fun _ => False) w7 w8) := hf8
              have HEq : Hid (Calls Try.prog 14 #[.slice (some ⟨g7, 0, none⟩) n n, .slice (some ⟨g8, 0, none⟩) n c8] w8 fun e w' => e = .returned (.bool true) ∧ ∃ q, w' = w8.drewN q) := by
                have s7 := seen_of HX.out.2 (HO7.out _ hf8) (by have := HN.out; omega)
                have s8 := seen_of HX.out.2 ho8 (by have := HN.out; omega)
                exact eq_same _ _ _ _ w8 s7 s8 rfl true (by show true = _; simp)
              clear ho8 hf8
              go_wp2_with fail
              refine HEq.out.mono ?_
              rintro e w9 ⟨rfl, q, hw9⟩
              have HF9 : Hid (Fr (fun _ => False) w7 w9) := by rw [hw9]; exact HF8.out.drewN q
              clear hw9
              go_wp2_with fail
              refine (overB_row g7 n n _ w9 (by have := HN.out; omega) (HO7.out _ HF9.out)).mono ?_
              rintro e w10 ⟨rfl, hf10⟩
              have HF10 : Hid (Fr (fun _ => False) w6 w10) := (HF7.out.trans HF9.out (fun _ _ h => h)).trans hf10 (fun i hi e => by have := HG7.out; omega)
              clear hf10
              go_wp2_with fail
              go_roundw
              case rel => exact ⟨k + 1, gb5, cb5, gq6, cq6, by omega, by omega, congrArg (Value.int .i64) (by omega), HP6.out.kept HF10.out⟩
              case measure => simp [intOf]; omega
            · have hq : (((k : Int) % 97) == 0) = false := by simp; omega
              go_wp2_with fail
              go_roundw
              case rel => exact ⟨k + 1, gb5, cb5, gq6, cq6, by omega, by omega, congrArg (Value.int .i64) (by omega), HP6.out⟩
              case measure => simp [intOf]; omega
          · have HNx : Hid (runS n K D (k + 1) = runS n K D k) := by show _ = _; rw [HRS.out, if_neg hbit]
            have q0 : dd ≠ 0 := fun e => hbit (Or.inl e)
            have q1 : dd ≠ 1 := fun e => hbit (Or.inr e)
            have HP1 : Hid (∀ w', Pr w0 w' bc gc n gbk cbk br gt ct gs gz n gqk cqk (runS n K D k) → Calls Try.prog 11 #[.pointer (some ⟨bc, 0, none⟩), .int .i64 kk, .int .i64 dd] w' fun e w'' => e = .returned (.int .i64 42) ∧ w'' = w') := fun w' hp => put_bit w' bc kk dd q0 q1 (cell_of_seven hp.co.blk).2.2.2.2.2.2.1
            have HP2 : Hid (∀ w', Pr w0 w' bc gc n gbk cbk br gt ct gs gz n gqk cqk (runS n K D k) → Calls Try.prog 20 #[.pointer (some ⟨br, 0, none⟩), .int .i64 kk, .int .i64 dd] w' fun e w'' => e = .returned (.int .i64 42) ∧ w'' = w') := fun w' hp => rput_bit w' br kk dd q0 q1 (cell_of_nine hp.re.blk).2.2.2.2.2.2.2.2.1
            clear hbit q0 q1
            go_wp2_with fail
            go_region_held3 (fun w' => w'.cell? ⟨w.heap.size, 0, none⟩ = some (.int .i64 (n : Int)) ∧ w'.cell? ⟨w.heap.size, 1, none⟩ = some (.slice (some ⟨bL, oL, none⟩) nn cap) ∧ w'.cell? ⟨bL, oL + k * 2, none⟩ = some (.int .i64 kk) ∧ w'.cell? ⟨bL, oL + k * 2 + 1, none⟩ = some (.int .i64 dd)) (first | exact HS.out _ HPk.out.fr.drew | exact HS.out _ HPk.out.fr) (first | (go_at_call 11; refine (HP1.out _ (HPk.out.kept (by first | exact (Fr.refl _ _).drew | exact Fr.refl _ _))).mono ?_; rintro e w5 ⟨rfl, rfl⟩) | (go_at_call 20; refine (HP2.out _ (HPk.out.kept (by first | exact (Fr.refl _ _).drew | exact Fr.refl _ _))).mono ?_; rintro e w6 ⟨rfl, rfl⟩))
            have HP7 : Hid (Pr w0 wr.drew bc gc n gbk cbk br gt ct gs gz n gqk cqk (runS n K D (k + 1))) := by rw [HNx.out]; exact HPk.out.kept (Fr.refl (fun _ => False) wr).drew
            have HX : Hid (Ook (runS n K D (k + 1)) ∧ (runS n K D (k + 1)).x.length = n) := ⟨(runS_ok HN.out.1 HN.out.2 K D (k + 1) (by omega)).1, (runS_ok HN.out.1 HN.out.2 K D (k + 1) (by omega)).2.2⟩
            by_cases h97 : k % 97 = 0
            · have hq : (((k : Int) % 97) == 0) = true := by simp; omega
              have HSt : Hid (Calls Try.prog 16 #[.pointer (some ⟨bc, 0, none⟩)] wr.drew fun e w' => ∃ g, e = .returned (.slice (some ⟨g, 0, none⟩) n n) ∧ w'.ownsRow 0 5 1 (.slice (some ⟨g, 0, none⟩) n n) n (byteCells (runS n K D (k + 1)).x) ∧ Fr (fun _ => False) wr.drew w' ∧ wr.drew.heap.size ≤ g) := by
                have hc := HP7.out.co
                have h := states_at wr.drew bc gc n (runS n K D (k + 1)).x (by rw [HX.out.2]; exact HN.out.1) (by rw [HX.out.2]; exact HN.out.2) (cell_of_seven hc.blk).1 hc.xs
                rwa [HX.out.2] at h
              clear c0 c1 cK cD
              go_wp2_with fail
              refine HSt.out.mono ?_
              rintro e w7 ⟨g7, rfl, ho7, hf7, hg7⟩
              have HO7 : Hid (∀ w', Fr (fun _ => False) w7 w' → w'.ownsRow 0 5 1 (.slice (some ⟨g7, 0, none⟩) n n) n (byteCells (runS n K D (k + 1)).x)) := fun w' hf => row_kept1 ho7 hf (fun h => h)
              have HF7 : Hid (Fr (fun _ => False) wr.drew w7) := hf7
              have HG7 : Hid (wr.drew.heap.size ≤ g7) := hg7
              clear ho7 hf7 hg7
              have HSr : Hid (Calls Try.prog 21 #[.pointer (some ⟨br, 0, none⟩)] w7 fun e w' => ∃ g c, e = .returned (.slice (some ⟨g, 0, none⟩) n c) ∧ w'.ownsRow 0 5 1 (.slice (some ⟨g, 0, none⟩) n c) n (byteCells (runS n K D (k + 1)).x) ∧ Fr (fun _ => False) w7 w') := by
                refine (rstates_at w7 br gt ct gs gz n gqk cqk _ false (HP7.out.kept HF7.out).re HN.out.1 HN.out.2 HX.out.1.cells).mono ?_
                rintro e w' ⟨rv, rfl, h2, h3, _⟩
                obtain ⟨g, c, rfl, _⟩ := h2.form HN.out.1
                exact ⟨g, c, rfl, h2, h3⟩
              go_wp2_with fail
              refine HSr.out.mono ?_
              rintro e w8 ⟨g8, c8, rfl, ho8, hf8⟩
              have HF8 : Hid (Fr (fun _ => False) w7 w8) := hf8
              have HEq : Hid (Calls Try.prog 14 #[.slice (some ⟨g7, 0, none⟩) n n, .slice (some ⟨g8, 0, none⟩) n c8] w8 fun e w' => e = .returned (.bool true) ∧ ∃ q, w' = w8.drewN q) := by
                have s7 := seen_of HX.out.2 (HO7.out _ hf8) (by have := HN.out; omega)
                have s8 := seen_of HX.out.2 ho8 (by have := HN.out; omega)
                exact eq_same _ _ _ _ w8 s7 s8 rfl true (by show true = _; simp)
              clear ho8 hf8
              go_wp2_with fail
              refine HEq.out.mono ?_
              rintro e w9 ⟨rfl, q, hw9⟩
              have HF9 : Hid (Fr (fun _ => False) w7 w9) := by rw [hw9]; exact HF8.out.drewN q
              clear hw9
              go_wp2_with fail
              refine (overB_row g7 n n _ w9 (by have := HN.out; omega) (HO7.out _ HF9.out)).mono ?_
              rintro e w10 ⟨rfl, hf10⟩
              have HF10 : Hid (Fr (fun _ => False) wr.drew w10) := (HF7.out.trans HF9.out (fun _ _ h => h)).trans hf10 (fun i hi e => by have := HG7.out; omega)
              clear hf10
              go_wp2_with fail
              go_roundw
              case rel => exact ⟨k + 1, gbk, cbk, gqk, cqk, by omega, by omega, congrArg (Value.int .i64) (by omega), HP7.out.kept HF10.out⟩
              case measure => simp [intOf]; omega
            · have hq : (((k : Int) % 97) == 0) = false := by simp; omega
              go_wp2_with fail
              go_roundw
              case rel => exact ⟨k + 1, gbk, cbk, gqk, cqk, by omega, by omega, congrArg (Value.int .i64) (by omega), HP7.out⟩
              case measure => simp [intOf]; omega
        · have HX : Hid (Ook (runS n K D k) ∧ (runS n K D k).x.length = n) := ⟨(runS_ok HN.out.1 HN.out.2 K D k (by omega)).1, (runS_ok HN.out.1 HN.out.2 K D k (by omega)).2.2⟩
          rcases (show ¬ k < nn ∨ (k < nn ∧ ¬ k < 6000) by omega) with q | ⟨q1, q2⟩
          · have hda : decide (k < nn) = false := decide_eq_false q
            go_wp2_with fail
            refine (flush_free wr bc gc n gbk cbk _ HPk.out.co HX.out.1).mono ?_
            rintro e w5 ⟨gf, nf, cf, rfl, hsee, hdo, hstep, hne1, hne2, hfree, hle, hglt⟩
            have hst := HPk.out.step1 hstep
            have HRE5 : Hid (ReAt w5 br gt ct gs gz n gqk cqk (runS n K D k) false) := hst.1
            have HF5 : Hid (Fr (fun _ => False) w0 w5) := hst.2.1
            have HAp : Hid (w0.heap.size ≤ gf ∧ Apart3 bc gc gf br gt gs gz gqk) := hst.2.2
            have HSee5 : Hid (SeenAt w5 (.slice (some ⟨gf, 1, none⟩) nf cf) (flushP (runS n K D k).s)) := hsee
            have HDo5 : Hid (DoAt w5 bc gc n (runS n K D k).x) := hdo
            have HFe5 : Hid (Free w5 gf 1 cf) := hfree
            have HNE : Hid (gf ≠ bc ∧ gf ≠ gc ∧ nf ≤ cf ∧ gf < w5.heap.size) := ⟨hne1, hne2, hle, hglt⟩
            clear hst hsee hdo hstep hne1 hne2 hfree hle hglt c0 c1
            go_wp2_with fail
            refine (rflush_any w5 br gt ct gs gz n gqk cqk _ HRE5.out HX.out.1).mono ?_
            rintro e w6 ⟨gr, Nr, cr, gq6, cq6, rfl, hor, hgr, hre6, hst6⟩
            have hgfS : ¬ (gf = br ∨ gf = gs ∨ gf = gz ∨ gf = gqk) := by
              have h := HAp.out.2.a3
              exact fun e => e.elim h.1 (fun e => e.elim h.2.2.1 (fun e => e.elim h.2.2.2.1 h.2.2.2.2))
            have hbcS : ¬ (bc = br ∨ bc = gs ∨ bc = gz ∨ bc = gqk) := by
              have h := HAp.out.2.a1
              exact fun e => e.elim h.1 (fun e => e.elim h.2.2.1 (fun e => e.elim h.2.2.2.1 h.2.2.2.2))
            have hgcS : ¬ (gc = br ∨ gc = gs ∨ gc = gz ∨ gc = gqk) := by
              have h := HAp.out.2.a2
              exact fun e => e.elim h.1 (fun e => e.elim h.2.2.1 (fun e => e.elim h.2.2.2.1 h.2.2.2.2))
            have HF6 : Hid (Fr (fun _ => False) w0 w6) := HF5.out.trans hst6.fr (fun i hi e => by have hb := HPk.out.big; rcases e with e | e | e | e <;> omega)
            have HSee : Hid (∀ w', Fr (fun _ => False) w6 w' → SeenAt w' (.slice (some ⟨gf, 1, none⟩) nf cf) (flushP (runS n K D k).s)) := fun w' hf => seenAt_kept (seenAt_kept HSee5.out hst6.fr hgfS) hf (fun h => h)
            have HDo : Hid (∀ w', Fr (fun _ => False) w6 w' → DoAt w' bc gc n (runS n K D k).x) := fun w' hf => (HDo5.out.kept hst6.fr hbcS hgcS).kept hf (fun h => h) (fun h => h)
            have HFe : Hid (∀ w', Fr (fun _ => False) w6 w' → Free w' gf 1 cf) := fun w' hf => ((HFe5.out.kept HNE.out.2.2.2 hst6.fr hgfS)).kept (Nat.lt_of_lt_of_le HNE.out.2.2.2 hst6.fr.size) hf (fun h => h)
            have HRe : Hid (∀ w', Fr (fun _ => False) w6 w' → ReAt w' br gt ct gs gz n gq6 cq6 { runS n K D k with s := flush2 (runS n K D k).s } true) := fun w' hf => hre6.kept hf (fun h => h) (fun h => h) (fun h => h) (fun h => h) (fun h => h)
            have HSq : Hid (∀ w', Fr (fun _ => False) w6 w' → SeenAt w' (.slice (some ⟨gr, 0, none⟩) Nr cr) (flushP (runS n K D k).s)) := fun w' hf => by
              have h := row_kept1 hor hf (fun h => h)
              have hl := h.1
              rw [length_byteCells] at hl
              refine seen_of (by omega) h ?_
              have h5 := HSee5.out
              obtain ⟨_, _, _, h6, _⟩ := h5
              omega
            have HE1 : Hid (∀ w', Fr (fun _ => False) w6 w' → Calls Try.prog 14 #[.slice (some ⟨gf, 1, none⟩) nf cf, .slice (some ⟨gr, 0, none⟩) Nr cr] w' fun e w'' => e = .returned (.bool true) ∧ Fr (fun _ => False) w' w'') := fun w' hf => (eq_same _ _ _ _ w' (HSee.out _ hf) (HSq.out _ hf) rfl true (by show true = _; simp)).mono fun e w'' ⟨h1, q, h2⟩ => ⟨h1, by rw [h2]; exact (Fr.refl _ _).drewN q⟩
            have HStD : Hid (∀ w', Fr (fun _ => False) w6 w' → Calls Try.prog 16 #[.pointer (some ⟨bc, 0, none⟩)] w' fun e w'' => ∃ g, e = .returned (.slice (some ⟨g, 0, none⟩) n n) ∧ SeenAt w'' (.slice (some ⟨g, 0, none⟩) n n) (runS n K D k).x ∧ Fr (fun _ => False) w' w'') := fun w' hf => by
              have hd := HDo.out _ hf
              obtain ⟨v1, v2, v3, v4, v5, hblk⟩ := hd.blk
              have h := states_at w' bc gc n (runS n K D k).x (by rw [HX.out.2]; exact HN.out.1) (by rw [HX.out.2]; exact HN.out.2) (cell_of_seven hblk).1 hd.xs
              rw [HX.out.2] at h
              exact h.mono fun e w'' ⟨g, h1, h2, h3, _⟩ => ⟨g, h1, seen_of HX.out.2 h2 (by have := HN.out; omega), h3⟩
            have HStR : Hid (∀ w', Fr (fun _ => False) w6 w' → Calls Try.prog 21 #[.pointer (some ⟨br, 0, none⟩)] w' fun e w'' => ∃ g c, e = .returned (.slice (some ⟨g, 0, none⟩) n c) ∧ SeenAt w'' (.slice (some ⟨g, 0, none⟩) n c) (runS n K D k).x ∧ Fr (fun _ => False) w' w'') := fun w' hf => by
              refine (rstates_at w' br gt ct gs gz n gq6 cq6 _ true (HRe.out _ hf) HN.out.1 HN.out.2 HX.out.1.cells).mono ?_
              rintro e w'' ⟨rv, rfl, h2, h3, _⟩
              obtain ⟨g, c, rfl, _⟩ := h2.form HN.out.1
              exact ⟨g, c, rfl, seen_of HX.out.2 h2 (by have := HN.out; omega), h3⟩
            have HS56 : Hid (w5.heap.size ≤ w6.heap.size) := hst6.fr.size
            clear hor hgr hre6 hst6 hgfS hbcS hgcS
            go_wp2_with fail
            go_region_held3 (fun _ => True) (trivial) (first | (go_at_call 14; first | (with_reducible refine (HE1.out _ (by repeat (first | with_reducible exact Fr.refl _ _ | with_reducible refine Fr.drew ?_))).mono ?_; rintro e wA ⟨rfl, hfA⟩) | (refine (eq_same _ _ _ _ _ (seenAt_kept hs7 hf8 (fun h => h)) hs8 rfl true (by show true = _; simp)).mono ?_; rintro e wB ⟨rfl, qB, hwB⟩)) | (go_at_call 16; refine (HStD.out _ (by repeat (first | with_reducible exact Fr.refl _ _ | with_reducible refine Fr.drew ?_ | with_reducible refine Fr.trans ?_ hfA (fun _ _ hh => hh)))).mono ?_; rintro e w7 ⟨g7, rfl, hs7, hf7⟩) | (go_at_call 21; refine (HStR.out _ (by repeat (first | with_reducible exact Fr.refl _ _ | with_reducible refine Fr.drew ?_ | with_reducible refine Fr.trans ?_ hf7 (fun _ _ hh => hh) | with_reducible refine Fr.trans ?_ hfA (fun _ _ hh => hh)))).mono ?_; rintro e w8 ⟨g8, c8, rfl, hs8, hf8⟩))
            subst hwB
            have HFB : Hid (Fr (fun _ => False) w6 (w8.drewN qB)) := (((((Fr.refl (fun _ => False) w6).drew.trans hfA (fun _ _ hh => hh)).trans hf7 (fun _ _ hh => hh)).trans hf8 (fun _ _ hh => hh))).drewN qB
            clear hfA hf7 hf8 hs7 hs8
            generalize w8.drewN qB = wB at *
            have HNf : Hid (nf ≤ 1000000000) := by
              obtain ⟨_, _, e5, _, _⟩ := HSee5.out
              simp only [Value.slice.injEq] at e5
              have h1 := HX.out.1.len
              have h2 := HX.out.1.made
              have h3 := flushP_len (runS n K D k).s
              show nf ≤ _
              omega
            go_wp2_with fail
            refine (overB_off gf 1 nf cf wB HNf.out HNE.out.2.2.1 (HFe.out _ HFB.out) (by have h1 := HNE.out.2.2.2; have h2 := HS56.out; have h3 := HFB.out.size; omega)).mono ?_
            rintro e w10 ⟨rfl, hf10⟩
            have HDo10 : Hid (DoAt w10 bc gc n (runS n K D k).x) := (HDo.out _ HFB.out).kept hf10 (fun e => HNE.out.1 e.symm) (fun e => HNE.out.2.1 e.symm)
            have HF10 : Hid (Fr (fun _ => False) w w10) := HA.out.trans ((HF6.out.trans HFB.out (fun _ _ h => h)).trans hf10 (fun i hi e => by have := HAp.out.1; omega)) (fun _ _ h => h)
            have hc6 : w10.cell? ⟨bc, 6, none⟩ = some (.bool true) := by
              obtain ⟨v1, v2, v3, v4, v5, hblk⟩ := HDo10.out.blk
              exact (cell_of_seven hblk).2.2.2.2.2.2.1
            have HFD : Hid (Calls Try.prog 12 #[.pointer (some ⟨bc, 0, none⟩)] w10 fun e w' => e = .returned (.tuple #[.slice none 0 0, .int .i64 43]) ∧ w' = w10) := flush_done w10 bc hc6
            have HPD : Hid (Calls Try.prog 11 #[.pointer (some ⟨bc, 0, none⟩), .int .i64 0, .int .i64 0] w10 fun e w' => e = .returned (.int .i64 43) ∧ w' = w10) := put_done w10 bc 0 0 hc6
            clear hf10 hc6
            go_wp2_with fail
            refine HFD.out.mono ?_
            rintro e w11 ⟨rfl, hw11⟩
            obtain rfl := hw11.symm
            go_wp2_with fail
            refine HPD.out.mono ?_
            rintro e w12 ⟨rfl, hw12⟩
            obtain rfl := hw12.symm
            go_wp2_with fail
            refine (wakes_any _).mono ?_
            rintro e w13 ⟨rfl, hf13⟩
            have HF13 : Hid (Fr (fun _ => False) w w13) := HF10.out.trans hf13 (fun _ _ h => h)
            clear hf13
            go_wp2_with fail
            go_ret
            exact ⟨rfl, HF13.out⟩
          · have hda : decide (k < nn) = true := decide_eq_true q1
            have hdb : decide ((k : Int) < 6000) = false := decide_eq_false (by omega)
            go_wp2_with fail
            refine (flush_free wr bc gc n gbk cbk _ HPk.out.co HX.out.1).mono ?_
            rintro e w5 ⟨gf, nf, cf, rfl, hsee, hdo, hstep, hne1, hne2, hfree, hle, hglt⟩
            have hst := HPk.out.step1 hstep
            have HRE5 : Hid (ReAt w5 br gt ct gs gz n gqk cqk (runS n K D k) false) := hst.1
            have HF5 : Hid (Fr (fun _ => False) w0 w5) := hst.2.1
            have HAp : Hid (w0.heap.size ≤ gf ∧ Apart3 bc gc gf br gt gs gz gqk) := hst.2.2
            have HSee5 : Hid (SeenAt w5 (.slice (some ⟨gf, 1, none⟩) nf cf) (flushP (runS n K D k).s)) := hsee
            have HDo5 : Hid (DoAt w5 bc gc n (runS n K D k).x) := hdo
            have HFe5 : Hid (Free w5 gf 1 cf) := hfree
            have HNE : Hid (gf ≠ bc ∧ gf ≠ gc ∧ nf ≤ cf ∧ gf < w5.heap.size) := ⟨hne1, hne2, hle, hglt⟩
            clear hst hsee hdo hstep hne1 hne2 hfree hle hglt c0 c1
            go_wp2_with fail
            refine (rflush_any w5 br gt ct gs gz n gqk cqk _ HRE5.out HX.out.1).mono ?_
            rintro e w6 ⟨gr, Nr, cr, gq6, cq6, rfl, hor, hgr, hre6, hst6⟩
            have hgfS : ¬ (gf = br ∨ gf = gs ∨ gf = gz ∨ gf = gqk) := by
              have h := HAp.out.2.a3
              exact fun e => e.elim h.1 (fun e => e.elim h.2.2.1 (fun e => e.elim h.2.2.2.1 h.2.2.2.2))
            have hbcS : ¬ (bc = br ∨ bc = gs ∨ bc = gz ∨ bc = gqk) := by
              have h := HAp.out.2.a1
              exact fun e => e.elim h.1 (fun e => e.elim h.2.2.1 (fun e => e.elim h.2.2.2.1 h.2.2.2.2))
            have hgcS : ¬ (gc = br ∨ gc = gs ∨ gc = gz ∨ gc = gqk) := by
              have h := HAp.out.2.a2
              exact fun e => e.elim h.1 (fun e => e.elim h.2.2.1 (fun e => e.elim h.2.2.2.1 h.2.2.2.2))
            have HF6 : Hid (Fr (fun _ => False) w0 w6) := HF5.out.trans hst6.fr (fun i hi e => by have hb := HPk.out.big; rcases e with e | e | e | e <;> omega)
            have HSee : Hid (∀ w', Fr (fun _ => False) w6 w' → SeenAt w' (.slice (some ⟨gf, 1, none⟩) nf cf) (flushP (runS n K D k).s)) := fun w' hf => seenAt_kept (seenAt_kept HSee5.out hst6.fr hgfS) hf (fun h => h)
            have HDo : Hid (∀ w', Fr (fun _ => False) w6 w' → DoAt w' bc gc n (runS n K D k).x) := fun w' hf => (HDo5.out.kept hst6.fr hbcS hgcS).kept hf (fun h => h) (fun h => h)
            have HFe : Hid (∀ w', Fr (fun _ => False) w6 w' → Free w' gf 1 cf) := fun w' hf => ((HFe5.out.kept HNE.out.2.2.2 hst6.fr hgfS)).kept (Nat.lt_of_lt_of_le HNE.out.2.2.2 hst6.fr.size) hf (fun h => h)
            have HRe : Hid (∀ w', Fr (fun _ => False) w6 w' → ReAt w' br gt ct gs gz n gq6 cq6 { runS n K D k with s := flush2 (runS n K D k).s } true) := fun w' hf => hre6.kept hf (fun h => h) (fun h => h) (fun h => h) (fun h => h) (fun h => h)
            have HSq : Hid (∀ w', Fr (fun _ => False) w6 w' → SeenAt w' (.slice (some ⟨gr, 0, none⟩) Nr cr) (flushP (runS n K D k).s)) := fun w' hf => by
              have h := row_kept1 hor hf (fun h => h)
              have hl := h.1
              rw [length_byteCells] at hl
              refine seen_of (by omega) h ?_
              have h5 := HSee5.out
              obtain ⟨_, _, _, h6, _⟩ := h5
              omega
            have HE1 : Hid (∀ w', Fr (fun _ => False) w6 w' → Calls Try.prog 14 #[.slice (some ⟨gf, 1, none⟩) nf cf, .slice (some ⟨gr, 0, none⟩) Nr cr] w' fun e w'' => e = .returned (.bool true) ∧ Fr (fun _ => False) w' w'') := fun w' hf => (eq_same _ _ _ _ w' (HSee.out _ hf) (HSq.out _ hf) rfl true (by show true = _; simp)).mono fun e w'' ⟨h1, q, h2⟩ => ⟨h1, by rw [h2]; exact (Fr.refl _ _).drewN q⟩
            have HStD : Hid (∀ w', Fr (fun _ => False) w6 w' → Calls Try.prog 16 #[.pointer (some ⟨bc, 0, none⟩)] w' fun e w'' => ∃ g, e = .returned (.slice (some ⟨g, 0, none⟩) n n) ∧ SeenAt w'' (.slice (some ⟨g, 0, none⟩) n n) (runS n K D k).x ∧ Fr (fun _ => False) w' w'') := fun w' hf => by
              have hd := HDo.out _ hf
              obtain ⟨v1, v2, v3, v4, v5, hblk⟩ := hd.blk
              have h := states_at w' bc gc n (runS n K D k).x (by rw [HX.out.2]; exact HN.out.1) (by rw [HX.out.2]; exact HN.out.2) (cell_of_seven hblk).1 hd.xs
              rw [HX.out.2] at h
              exact h.mono fun e w'' ⟨g, h1, h2, h3, _⟩ => ⟨g, h1, seen_of HX.out.2 h2 (by have := HN.out; omega), h3⟩
            have HStR : Hid (∀ w', Fr (fun _ => False) w6 w' → Calls Try.prog 21 #[.pointer (some ⟨br, 0, none⟩)] w' fun e w'' => ∃ g c, e = .returned (.slice (some ⟨g, 0, none⟩) n c) ∧ SeenAt w'' (.slice (some ⟨g, 0, none⟩) n c) (runS n K D k).x ∧ Fr (fun _ => False) w' w'') := fun w' hf => by
              refine (rstates_at w' br gt ct gs gz n gq6 cq6 _ true (HRe.out _ hf) HN.out.1 HN.out.2 HX.out.1.cells).mono ?_
              rintro e w'' ⟨rv, rfl, h2, h3, _⟩
              obtain ⟨g, c, rfl, _⟩ := h2.form HN.out.1
              exact ⟨g, c, rfl, seen_of HX.out.2 h2 (by have := HN.out; omega), h3⟩
            have HS56 : Hid (w5.heap.size ≤ w6.heap.size) := hst6.fr.size
            clear hor hgr hre6 hst6 hgfS hbcS hgcS
            go_wp2_with fail
            go_region_held3 (fun _ => True) (trivial) (first | (go_at_call 14; first | (with_reducible refine (HE1.out _ (by repeat (first | with_reducible exact Fr.refl _ _ | with_reducible refine Fr.drew ?_))).mono ?_; rintro e wA ⟨rfl, hfA⟩) | (refine (eq_same _ _ _ _ _ (seenAt_kept hs7 hf8 (fun h => h)) hs8 rfl true (by show true = _; simp)).mono ?_; rintro e wB ⟨rfl, qB, hwB⟩)) | (go_at_call 16; refine (HStD.out _ (by repeat (first | with_reducible exact Fr.refl _ _ | with_reducible refine Fr.drew ?_ | with_reducible refine Fr.trans ?_ hfA (fun _ _ hh => hh)))).mono ?_; rintro e w7 ⟨g7, rfl, hs7, hf7⟩) | (go_at_call 21; refine (HStR.out _ (by repeat (first | with_reducible exact Fr.refl _ _ | with_reducible refine Fr.drew ?_ | with_reducible refine Fr.trans ?_ hf7 (fun _ _ hh => hh) | with_reducible refine Fr.trans ?_ hfA (fun _ _ hh => hh)))).mono ?_; rintro e w8 ⟨g8, c8, rfl, hs8, hf8⟩))
            subst hwB
            have HFB : Hid (Fr (fun _ => False) w6 (w8.drewN qB)) := (((((Fr.refl (fun _ => False) w6).drew.trans hfA (fun _ _ hh => hh)).trans hf7 (fun _ _ hh => hh)).trans hf8 (fun _ _ hh => hh))).drewN qB
            clear hfA hf7 hf8 hs7 hs8
            generalize w8.drewN qB = wB at *
            have HNf : Hid (nf ≤ 1000000000) := by
              obtain ⟨_, _, e5, _, _⟩ := HSee5.out
              simp only [Value.slice.injEq] at e5
              have h1 := HX.out.1.len
              have h2 := HX.out.1.made
              have h3 := flushP_len (runS n K D k).s
              show nf ≤ _
              omega
            go_wp2_with fail
            refine (overB_off gf 1 nf cf wB HNf.out HNE.out.2.2.1 (HFe.out _ HFB.out) (by have h1 := HNE.out.2.2.2; have h2 := HS56.out; have h3 := HFB.out.size; omega)).mono ?_
            rintro e w10 ⟨rfl, hf10⟩
            have HDo10 : Hid (DoAt w10 bc gc n (runS n K D k).x) := (HDo.out _ HFB.out).kept hf10 (fun e => HNE.out.1 e.symm) (fun e => HNE.out.2.1 e.symm)
            have HF10 : Hid (Fr (fun _ => False) w w10) := HA.out.trans ((HF6.out.trans HFB.out (fun _ _ h => h)).trans hf10 (fun i hi e => by have := HAp.out.1; omega)) (fun _ _ h => h)
            have hc6 : w10.cell? ⟨bc, 6, none⟩ = some (.bool true) := by
              obtain ⟨v1, v2, v3, v4, v5, hblk⟩ := HDo10.out.blk
              exact (cell_of_seven hblk).2.2.2.2.2.2.1
            have HFD : Hid (Calls Try.prog 12 #[.pointer (some ⟨bc, 0, none⟩)] w10 fun e w' => e = .returned (.tuple #[.slice none 0 0, .int .i64 43]) ∧ w' = w10) := flush_done w10 bc hc6
            have HPD : Hid (Calls Try.prog 11 #[.pointer (some ⟨bc, 0, none⟩), .int .i64 0, .int .i64 0] w10 fun e w' => e = .returned (.int .i64 43) ∧ w' = w10) := put_done w10 bc 0 0 hc6
            clear hf10 hc6
            go_wp2_with fail
            refine HFD.out.mono ?_
            rintro e w11 ⟨rfl, hw11⟩
            obtain rfl := hw11.symm
            go_wp2_with fail
            refine HPD.out.mono ?_
            rintro e w12 ⟨rfl, hw12⟩
            obtain rfl := hw12.symm
            go_wp2_with fail
            refine (wakes_any _).mono ?_
            rintro e w13 ⟨rfl, hf13⟩
            have HF13 : Hid (Fr (fun _ => False) w w13) := HF10.out.trans hf13 (fun _ _ h => h)
            clear hf13
            go_wp2_with fail
            go_ret
            exact ⟨rfl, HF13.out⟩

end Go.Proofs.Ytdbblgceeclpaaa
