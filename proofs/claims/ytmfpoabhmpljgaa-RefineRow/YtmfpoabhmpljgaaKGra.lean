/- The law 'RefineRow'. -/
import Derived.Test.YtmfpoabhmpljgaaKRg
import Derived.Test.YtmfpoabhmpljgaaKRq
import Derived.Test.YtmfpoabhmpljgaaKReT
import Derived.Test.YtmfpoabhmpljgaaKReF
import Derived.Test.YtmfpoabhmpljgaaK14
import Derived.Test.YtmfpoabhmpljgaaKRef
namespace Go.Proofs.Ytmfpoabhmpljgaa
open Go.RowKit

set_option maxRecDepth 100000 in
set_option maxHeartbeats 14000000 in
theorem row8_small (ao : Option Addr) (n cp M : Nat) (bi : Int) (A : Nat → Ak) (w : World) (hA : AsksAt w ao n A) (hbi : -9223372036854775808 ≤ bi ∧ bi ≤ 9223372036854775807) (hM : M = n ∧ n ≤ 5) :
    Calls Try.prog 7 #[.agg #[.slice ao n cp, .int .i64 bi]] w fun e w' => e = .returned (.bool true) ∧ Fr (fun _ => False) w w' := by
  have HM : Hid (M = n ∧ n ≤ 5) := hM
  have HA : Hid (∀ w', Fr (fun _ => False) w w' → AsksAt w' ao n A) := fun w' f => hA.kept f
  have hn := hA.len
  have HBX : Hid (∀ w', Fr (fun _ => False) (w.alloc (.cells #[.slice ao n cp, .int .i64 bi] 52)) w' → w'.cell? ⟨w.heap.size, 0, none⟩ = some (.slice ao n cp) ∧ w'.cell? ⟨w.heap.size, 1, none⟩ = some (.int .i64 bi)) := fun w' hf => by
    have h := (hf.block w.heap.size (by simp) (fun hh => hh)).trans (heap_alloc_new w _)
    unfold World.cell?
    rw [h]
    exact ⟨rfl, rfl⟩
  have H0 : Hid (Fr (fun _ => False) w (w.alloc (.cells #[.slice ao n cp, .int .i64 bi] 52))) := (Fr.refl _ _).alloc _
  have HBi : Hid (-9223372036854775808 ≤ bi ∧ bi ≤ 9223372036854775807) := hbi
  clear hA hbi hM
  go_enter Try.func7, Try.ntmps7
  go_wp2_with fail
  generalize w.alloc (.cells #[.slice ao n cp, .int .i64 bi] 52) = w0 at *
  go_loopw [3, 4, 5] (fun s a _ wr => ∃ i : Nat, i ≤ M ∧ a = .int .i64 i ∧ s = .int .i64 (sumN A i) ∧ (∀ j, j < i → akGood (A j)) ∧ Fr (fun _ => False) w0 wr) (fun _ a _ _ => M - (intOf a).toNat)
  case atStart => exact ⟨0, by omega, rfl, rfl, fun j hj => by omega, Fr.refl _ _⟩
  case round =>
    obtain ⟨i, hi, rfl, rfl, hg, hfr⟩ := hrel
    have HFr : Hid (Fr (fun _ => False) w0 wr) := hfr
    have HG : Hid (∀ j, j < i → akGood (A j)) := hg
    clear hfr hg
    obtain ⟨p0, p1⟩ := HBX.out _ HFr.out
    by_cases hin : i < M
    · have hi5 : i < 5 := by have := HM.out; omega
      have hinn : i < n := by have := HM.out; omega
      have hdn : decide ((i : Int) < (n : Int)) = true := decide_eq_true (by omega)
      have hd5 : decide ((i : Int) < 5) = true := decide_eq_true (by omega)
      obtain ⟨b, off, hao, -⟩ := (HA.out wr (H0.out.trans HFr.out (fun _ _ h => h))).cells (by omega)
      subst hao
      have HC : Hid (∀ w', Fr (fun _ => False) wr w' → (w'.cell? ⟨b, off + i * 8, none⟩ = some (.int .i64 (A i).x) ∧ w'.cell? ⟨b, off + i * 8 + 1, none⟩ = some (.int .i64 (A i).y) ∧ w'.cell? ⟨b, off + i * 8 + 2, none⟩ = some (A i).v ∧ w'.cell? ⟨b, off + i * 8 + 3, none⟩ = some (.int .i64 (A i).rx) ∧ w'.cell? ⟨b, off + i * 8 + 4, none⟩ = some (.int .i64 (A i).ry) ∧ w'.cell? ⟨b, off + i * 8 + 5, none⟩ = some (A i).rv ∧ w'.cell? ⟨b, off + i * 8 + 6, none⟩ = some (.int .i64 (A i).dx) ∧ w'.cell? ⟨b, off + i * 8 + 7, none⟩ = some (.int .i64 (A i).dy)) ∧ AkOK w' (A i)) := fun w' f => by
        have h := HA.out w' ((H0.out.trans HFr.out (fun _ _ h => h)).trans f (fun _ _ h => h))
        obtain ⟨b', off', e, hc⟩ := h.cells (by omega)
        simp only [Option.some.injEq, Addr.mk.injEq, and_true] at e
        obtain ⟨rfl, rfl⟩ := e
        exact ⟨hc i hinn, h.ok i hinn⟩
      have HSm : Hid (0 ≤ sumN A i ∧ sumN A i ≤ 4000 * i) := sumN_le (w := wr) i (fun j hj => ⟨HG.out j hj, (HA.out wr (H0.out.trans HFr.out (fun _ _ h => h))).ok j (by omega)⟩)
      have HPx : Hid (akGood (A i) → 0 ≤ (A i).x * (A i).y ∧ (A i).x * (A i).y ≤ 4000 ∧ 0 ≤ (A i).x ∧ (A i).x ≤ 4000 ∧ 0 ≤ (A i).y ∧ (A i).y ≤ 4000) := fun h => h.pix (HC.out wr (Fr.refl _ _)).2
      have HSn : Hid (sumN A (i + 1) = sumN A i + (A i).x * (A i).y) := rfl
      have HGn : Hid (akGood (A i) → ∀ j, j < i + 1 → akGood (A j)) := fun h j hj => by
        rcases (show j < i ∨ j = i by omega) with e | e
        · exact HG.out j e
        · rw [e]; exact h
      have HGd : Hid (∀ a : Ak, akGood a ↔ validB a.x a.y a.l = true ∧ validB a.rx a.ry a.rl = true ∧ lightB a.x a.y a.l = true ∧ lightB a.rx a.ry a.rl = true ∧ mayS a.dx a.dy = true) := fun a => Iff.rfl
      obtain ⟨⟨c0, c1, c2, c3, c4, c5, c6, c7⟩, hak⟩ := HC.out wr (Fr.refl _ _)
      obtain ⟨a, Ha⟩ : ∃ a, Hid (a = A i) := ⟨_, rfl⟩
      rw [← Ha.out] at HC c0 c1 c2 c3 c4 c5 c6 c7 hak HPx HSn HGn
      obtain ⟨x, y, v, l, rx, ry, rv, rl, dx, dy⟩ := a
      simp only [] at HC c0 c1 c2 c3 c4 c5 c6 c7 HPx HSn
      obtain ⟨va, vc, hvv, -, -⟩ := hak.b.hv
      obtain ⟨ra, rc, hvr, -, -⟩ := hak.r.hv
      obtain ⟨n0, HN0⟩ : ∃ n0, Hid (n0 = l.length) := ⟨_, rfl⟩
      obtain ⟨n1, HN1⟩ : ∃ n1, Hid (n1 = rl.length) := ⟨_, rfl⟩
      simp only [] at hvv hvr
      rw [← HN0.out] at hvv
      rw [← HN1.out] at hvr
      subst hvv
      subst hvr
      have HFO : Hid (Fr (fun _ => False) wr (wr.alloc (.cells #[.int .i64 x, .int .i64 y, .slice va n0 vc, .int .i64 rx, .int .i64 ry, .slice ra n1 rc, .int .i64 dx, .int .i64 dy] 28))) := (Fr.refl _ _).alloc _
      have HBo : Hid (∀ w', Fr (fun _ => False) (wr.alloc (.cells #[.int .i64 x, .int .i64 y, .slice va n0 vc, .int .i64 rx, .int .i64 ry, .slice ra n1 rc, .int .i64 dx, .int .i64 dy] 28)) w' → w'.heap[wr.heap.size]? = some (.cells #[.int .i64 x, .int .i64 y, .slice va n0 vc, .int .i64 rx, .int .i64 ry, .slice ra n1 rc, .int .i64 dx, .int .i64 dy] 28 (0, 0))) := fun w' f => blkOld f (heap_alloc_new wr _)
      have HMY : Hid (∀ w', Fr (fun _ => False) (wr.alloc (.cells #[.int .i64 x, .int .i64 y, .slice va n0 vc, .int .i64 rx, .int .i64 ry, .slice ra n1 rc, .int .i64 dx, .int .i64 dy] 28)) w' → Calls Try.prog 22 #[.agg #[.int .i64 x, .int .i64 y, .slice va n0 vc]] w' fun e w'' => e = .returned (.bool (validB x y l)) ∧ Fr (fun _ => False) w' w'') := fun w' f => (HC.out w' (HFO.out.trans f (fun _ _ h => h))).2.b.s.may
      have HMR : Hid (∀ w', Fr (fun _ => False) (wr.alloc (.cells #[.int .i64 x, .int .i64 y, .slice va n0 vc, .int .i64 rx, .int .i64 ry, .slice ra n1 rc, .int .i64 dx, .int .i64 dy] 28)) w' → Calls Try.prog 22 #[.agg #[.int .i64 rx, .int .i64 ry, .slice ra n1 rc]] w' fun e w'' => e = .returned (.bool (validB rx ry rl)) ∧ Fr (fun _ => False) w' w'') := fun w' f => (HC.out w' (HFO.out.trans f (fun _ _ h => h))).2.r.s.may
      have HLI : Hid (∀ w', Fr (fun _ => False) (wr.alloc (.cells #[.int .i64 x, .int .i64 y, .slice va n0 vc, .int .i64 rx, .int .i64 ry, .slice ra n1 rc, .int .i64 dx, .int .i64 dy] 28)) w' → Calls Try.prog 9 #[.agg #[.int .i64 x, .int .i64 y, .slice va n0 vc]] w' fun e w'' => e = .returned (.bool (lightB x y l)) ∧ Fr (fun _ => False) w' w'') := fun w' f => by
        have h := (HC.out w' (HFO.out.trans f (fun _ _ h => h))).2.b
        exact light_any x y _ l w' h.hx h.hy h.hv h.hc h.hlt
      have HLR : Hid (∀ w', Fr (fun _ => False) (wr.alloc (.cells #[.int .i64 x, .int .i64 y, .slice va n0 vc, .int .i64 rx, .int .i64 ry, .slice ra n1 rc, .int .i64 dx, .int .i64 dy] 28)) w' → Calls Try.prog 9 #[.agg #[.int .i64 rx, .int .i64 ry, .slice ra n1 rc]] w' fun e w'' => e = .returned (.bool (lightB rx ry rl)) ∧ Fr (fun _ => False) w' w'') := fun w' f => by
        have h := (HC.out w' (HFO.out.trans f (fun _ _ h => h))).2.r
        exact light_any rx ry _ rl w' h.hx h.hy h.hv h.hc h.hlt
      have HWk : Hid (∀ w', Fr (fun _ => False) (wr.alloc (.cells #[.int .i64 x, .int .i64 y, .slice va n0 vc, .int .i64 rx, .int .i64 ry, .slice ra n1 rc, .int .i64 dx, .int .i64 dy] 28)) w' → Fr (fun _ => False) w w') := fun w' f => (H0.out.trans HFr.out (fun _ _ h => h)).trans (HFO.out.trans f (fun _ _ h => h)) (fun _ _ h => h)
      clear hak HC p1
      go_wp2_with fail
      generalize wr.alloc (.cells #[.int .i64 x, .int .i64 y, .slice va n0 vc, .int .i64 rx, .int .i64 ry, .slice ra n1 rc, .int .i64 dx, .int .i64 dy] 28) = wO at *
      refine (HMY.out _ (Fr.refl _ _)).mono ?_
      rintro e w1 ⟨rfl, hf1⟩
      have HF1 : Hid (Fr (fun _ => False) wO w1) := hf1
      clear hf1 c0 c1 c2 c3 c4 c5 c6 c7 p0
      obtain ⟨q0, q1, q2, q3, q4, q5, q6, q7, qf⟩ := cell_of_eight (HBo.out _ HF1.out)
      cases hvb : validB x y l
      · go_wp2_with fail
        refine (wakes8 _).mono ?_
        rintro e wz ⟨rfl, hfz⟩
        have HFz : Hid (Fr (fun _ => False) w wz) := HWk.out _ (HF1.out.trans hfz (fun _ _ h => h))
        clear hfz
        go_wp2_with fail
        go_ret
        exact ⟨rfl, HFz.out⟩
      · go_wp2_with fail
        refine (HMR.out _ HF1.out).mono ?_
        rintro e w2 ⟨rfl, hf2⟩
        have HF2 : Hid (Fr (fun _ => False) wO w2) := HF1.out.trans hf2 (fun _ _ h => h)
        clear hf2 q0 q1 q2 q3 q4 q5 q6 q7 qf
        obtain ⟨q0, q1, q2, q3, q4, q5, q6, q7, qf⟩ := cell_of_eight (HBo.out _ HF2.out)
        cases hvb2 : validB rx ry rl
        · go_wp2_with fail
          refine (wakes8 _).mono ?_
          rintro e wz ⟨rfl, hfz⟩
          have HFz : Hid (Fr (fun _ => False) w wz) := HWk.out _ (HF2.out.trans hfz (fun _ _ h => h))
          clear hfz
          go_wp2_with fail
          go_ret
          exact ⟨rfl, HFz.out⟩
        · go_wp2_with fail
          refine (HLI.out _ HF2.out).mono ?_
          rintro e w3 ⟨rfl, hf3⟩
          have HF3 : Hid (Fr (fun _ => False) wO w3) := HF2.out.trans hf3 (fun _ _ h => h)
          clear hf3 q0 q1 q2 q3 q4 q5 q6 q7 qf
          obtain ⟨q0, q1, q2, q3, q4, q5, q6, q7, qf⟩ := cell_of_eight (HBo.out _ HF3.out)
          cases hlb : lightB x y l
          · go_wp2_with fail
            refine (wakes8 _).mono ?_
            rintro e wz ⟨rfl, hfz⟩
            have HFz : Hid (Fr (fun _ => False) w wz) := HWk.out _ (HF3.out.trans hfz (fun _ _ h => h))
            clear hfz
            go_wp2_with fail
            go_ret
            exact ⟨rfl, HFz.out⟩
          · go_wp2_with fail
            refine (HLR.out _ HF3.out).mono ?_
            rintro e w4 ⟨rfl, hf4⟩
            have HF4 : Hid (Fr (fun _ => False) wO w4) := HF3.out.trans hf4 (fun _ _ h => h)
            clear hf4 q0 q1 q2 q3 q4 q5 q6 q7 qf
            obtain ⟨q0, q1, q2, q3, q4, q5, q6, q7, qf⟩ := cell_of_eight (HBo.out _ HF4.out)
            cases hlb2 : lightB rx ry rl
            · go_wp2_with fail
              refine (wakes8 _).mono ?_
              rintro e wz ⟨rfl, hfz⟩
              have HFz : Hid (Fr (fun _ => False) w wz) := HWk.out _ (HF4.out.trans hfz (fun _ _ h => h))
              clear hfz
              go_wp2_with fail
              go_ret
              exact ⟨rfl, HFz.out⟩
            · go_wp2_with fail
              refine (rmay_any dx dy w4).mono ?_
              rintro e w5 ⟨rfl, hw5⟩
              subst hw5
              cases hms : mayS dx dy
              · go_wp2_with fail
                refine (wakes8 _).mono ?_
                rintro e wz ⟨rfl, hfz⟩
                have HFz : Hid (Fr (fun _ => False) w wz) := HWk.out _ (HF4.out.trans hfz (fun _ _ h => h))
                clear hfz
                go_wp2_with fail
                go_ret
                exact ⟨rfl, HFz.out⟩
              · have HGo : Hid (akGood ⟨x, y, .slice va n0 vc, l, rx, ry, .slice ra n1 rc, rl, dx, dy⟩) := (HGd.out _).2 ⟨hvb, hvb2, hlb, hlb2, hms⟩
                obtain ⟨k1, k2, k3, k4, k5, k6⟩ := HPx.out HGo.out
                obtain ⟨s1, s2⟩ := HSm.out
                obtain ⟨S, HS⟩ : ∃ S, Hid (S = sumN A i) := ⟨_, rfl⟩
                rw [← HS.out] at s1 s2 ⊢
                obtain ⟨X, HX⟩ : ∃ X, Hid (X = x * y) := ⟨_, rfl⟩
                rw [← HX.out] at k1 k2
                have hxy : x * y = X := HX.out.symm
                clear hvb hlb hvb2 hlb2 hms
                go_wp2_with fail
                exact ⟨⟨i + 1, by omega, congrArg (Value.int .i64) (by omega), congrArg (Value.int .i64) (by rw [HSn.out, ← HS.out, ← HX.out]), HGn.out HGo.out, HFr.out.trans (HFO.out.trans HF4.out (fun _ _ h => h)) (fun _ _ h => h)⟩, by simp only [intOf]; omega⟩
    · have hiM : i = M := by omega
      subst hiM
      have hdn : decide (i < n) = false := decide_eq_false (by have := HM.out; omega)
      obtain ⟨S, HS⟩ : ∃ S, Hid (S = sumN A i) := ⟨_, rfl⟩
      rw [← HS.out]
      by_cases hS : S > 4000
      · have hdS : decide ((4000 : Int) < S) = true := decide_eq_true (by omega)
        go_wp2_with fail
        refine (wakes8 _).mono ?_
        rintro e w3 ⟨rfl, hf3⟩
        have HF3 : Hid (Fr (fun _ => False) w w3) := (H0.out.trans HFr.out (fun _ _ h => h)).trans hf3 (fun _ _ h => h)
        clear hf3
        go_wp2_with fail
        go_ret
        exact ⟨rfl, HF3.out⟩
      · have hdS : decide ((4000 : Int) < S) = false := decide_eq_false (by omega)
        obtain ⟨base, Hb⟩ : ∃ base : Nat, Hid (((base : Nat) : Int) = bi % 500 ∧ base < 500) := ⟨(bi % 500).toNat, by constructor <;> omega⟩
        have hb6 : base < 500 := Hb.out.2
        have HWi : Hid (∀ w', Calls Try.prog 24 #[.int .i64 bi, .int .i64 500] w' fun e w'' => e = .returned (.int .i64 (base : Int)) ∧ w'' = w') := fun w' => by
          rw [Hb.out.1]; exact within_any bi 500 w' HBi.out (by decide) (by decide)
        obtain ⟨N, HN⟩ : ∃ N, Hid (N = base + 8192) := ⟨_, rfl⟩
        have HNi : Hid ((base : Int) + 8192 = (N : Int)) := by have := HN.out; show _ = _; omega
        have HNb : Hid (1 ≤ N ∧ N ≤ 131072) := by have := HN.out; exact ⟨by omega, by omega⟩
        have HNw : Hid (∀ w', Calls Try.prog 27 #[.int .i64 ((base : Int) + 8192)] w' fun e w'' => ∃ bc gc gb, e = .returned (.tuple #[.pointer (some ⟨bc, 0, none⟩), .int .i64 0]) ∧ CoAt w'' bc gc N gb 1 (newP N) ∧ Fr (fun _ => False) w' w'' ∧ w'.heap.size ≤ bc ∧ w'.heap.size ≤ gc ∧ w'.heap.size ≤ gb) := fun w' => by
          rw [HNi.out]; exact new_any w' N HNb.out.1 HNb.out.2
        have HRw : Hid (∀ w', Calls Try.prog 28 #[.int .i64 ((base : Int) + 8192)] w' fun e w'' => ∃ br gt ct gs gz gb, e = .returned (.pointer (some ⟨br, 0, none⟩)) ∧ ReAt w'' br gt ct gs gz N gb 1 (newP N) false ∧ Fr (fun _ => False) w' w'' ∧ w'.heap.size ≤ br ∧ w'.heap.size ≤ gt ∧ w'.heap.size ≤ gs ∧ w'.heap.size ≤ gz ∧ w'.heap.size ≤ gb) := fun w' => by
          rw [HNi.out]; exact rnew_any w' N HNb.out.1 HNb.out.2
        have HGw : Hid (∀ w', Fr (fun _ => False) wr w' → ∀ j, j < i → akGood (A j) ∧ AkOK w' (A j)) := fun w' f j hj => ⟨HG.out j hj, (HA.out w' ((H0.out.trans HFr.out (fun _ _ h => h)).trans f (fun _ _ h => h))).ok j (by have := HM.out; omega)⟩
        have HI5 : Hid (i ≤ 5 ∧ i ≤ n) := by have := HM.out; exact ⟨by omega, by omega⟩
        go_wp2_with fail
        refine (HWi.out _).mono ?_
        rintro e w1 ⟨rfl, hw1⟩
        subst hw1
        go_wp2_with fail
        refine (HNw.out _).mono ?_
        rintro e w2 ⟨bc, gc, gb, rfl, hc2, hf2, hb2, hg2, hl2⟩
        have HC2 : Hid (CoAt w2 bc gc N gb 1 (newP N) ∧ Fr (fun _ => False) w1 w2 ∧ w1.heap.size ≤ bc ∧ w1.heap.size ≤ gc ∧ w1.heap.size ≤ gb) := ⟨hc2, hf2, hb2, hg2, hl2⟩
        clear hc2 hf2 hb2 hg2 hl2 p0 p1
        go_wp2_with fail
        refine (HRw.out _).mono ?_
        rintro e w3 ⟨br, gt, ct, gs, gz, gq, rfl, hr3, hf3, l1, l2, l3, l4, l5⟩
        have HP0 : Hid (Pr w1 w3 bc gc N gb 1 br gt ct gs gz N gq 1 (runL (newP N) (allL base A 0))) := by
          obtain ⟨h1, h2, h3, h4, h5⟩ := HC2.out
          have q1 := h1.lt
          have q2 := h1.xlt
          have q3 := h1.blt
          have q4 := h2.size
          exact ⟨h1.kept hf3 (fun h => h) (fun h => h) (fun h => h), hr3, h2.trans hf3 (fun _ _ h => h), ⟨by omega, by omega, by omega, by omega, by omega, by omega, by omega⟩, ⟨by omega, by omega, by omega, by omega, by omega⟩, ⟨by omega, by omega, by omega, by omega, by omega⟩, ⟨by omega, by omega, by omega, by omega, by omega⟩⟩
        clear hr3 hf3 l1 l2 l3 l4 l5
        go_wp2_with fail
        go_loopw [10, 11] (fun a _ wq => ∃ k gbk cbk gqk cqk : Nat, k ≤ i ∧ a = .int .i64 k ∧ Pr w1 wq bc gc N gbk cbk br gt ct gs gz N gqk cqk (runL (newP N) (allL base A k))) (fun a _ _ => i - (intOf a).toNat)
        case atStart => exact ⟨0, gb, 1, gq, 1, by omega, rfl, HP0.out⟩
        case round =>
          obtain ⟨k, gbk, cbk, gqk, cqk, hk, rfl, hpk⟩ := hrel
          have HPk : Hid (Pr w1 wr bc gc N gbk cbk br gt ct gs gz N gqk cqk (runL (newP N) (allL base A k))) := hpk
          clear hpk
          have HW1 : Hid (Fr (fun _ => False) w w1) := H0.out.trans HFr.out (fun _ _ h => h)
          obtain ⟨p0, -⟩ := HBX.out _ (HFr.out.trans HPk.out.fr (fun _ _ h => h))
          have HOk : Hid (Ook (runL (newP N) (allL base A k)) ∧ (runL (newP N) (allL base A k)).made ≤ 20000 ∧ (runL (newP N) (allL base A k)).x.length = N) := by
            have h5 := HI5.out
            have hl := allL_length (base := base) (w := w1) k (fun j hj => HGw.out w1 (Fr.refl _ _) j (by omega))
            obtain ⟨a1, a2, a3⟩ := runL_ok (newP_ok (n := N) HNb.out.1 HNb.out.2) (allL base A k) (by show 0 + _ ≤ _; omega)
            refine ⟨a1, ?_, by rw [a3]; simp [newP]⟩
            rw [a2]
            show 0 + _ ≤ _
            omega
          by_cases hki : k < i
          · have hk5 : k < 5 := by have := HI5.out; omega
            have hkn : k < n := by have := HI5.out; omega
            have hdk : decide ((k : Int) < 5) = true := decide_eq_true (by omega)
            obtain ⟨b, off, hao, -⟩ := (HA.out wr (HW1.out.trans HPk.out.fr (fun _ _ h => h))).cells (by omega)
            subst hao
            obtain ⟨W, H, V, U, e1, e2, e3, e4, hbm, hbr, h6, h12, hdx, hdy⟩ := (HG.out k hki).form ((HA.out w (Fr.refl _ _)).ok k hkn)
            obtain ⟨va, vc, hvv, -, -⟩ := ((HA.out w (Fr.refl _ _)).ok k hkn).b.hv
            obtain ⟨ra, rc, hvr, -, -⟩ := ((HA.out w (Fr.refl _ _)).ok k hkn).r.hv
            obtain ⟨n0, HN0⟩ : ∃ n0, Hid (n0 = (A k).l.length) := ⟨_, rfl⟩
            rw [← HN0.out] at hvv
            rw [hvv] at hbm
            obtain ⟨n1, HN1⟩ : ∃ n1, Hid (n1 = (A k).rl.length) := ⟨_, rfl⟩
            rw [← HN1.out] at hvr
            rw [hvr] at hbr
            have HBr : Hid (∀ w', Fr (fun _ => False) w w' → Bm w' (.slice ra n1 rc) V U (pixOf V (A k).rl)) := fun w' f => hbr.kept f
            have HBm : Hid (∀ w', Fr (fun _ => False) w w' → Bm w' (.slice va n0 vc) W H (pixOf W (A k).l)) := fun w' f => hbm.kept f
            have HRun : Hid (runL (newP N) (allL base A (k + 1)) = runL (runL (newP N) (allL base A k)) (rowsD (cxR W (refP V U (pixOf V (A k).rl) (A k).dx (A k).dy)) base W (pixOf W (A k).l) H)) := by
              show _ = _
              rw [allL, runL_cat, akL, akC, e1, e2, e3, e4]
              rfl
            have HC : Hid (∀ w', Fr (fun _ => False) wr w' → w'.cell? ⟨b, off + k * 8, none⟩ = some (.int .i64 W) ∧ w'.cell? ⟨b, off + k * 8 + 1, none⟩ = some (.int .i64 H) ∧ w'.cell? ⟨b, off + k * 8 + 2, none⟩ = some (.slice va n0 vc) ∧ w'.cell? ⟨b, off + k * 8 + 3, none⟩ = some (.int .i64 V) ∧ w'.cell? ⟨b, off + k * 8 + 4, none⟩ = some (.int .i64 U) ∧ w'.cell? ⟨b, off + k * 8 + 5, none⟩ = some (.slice ra n1 rc) ∧ w'.cell? ⟨b, off + k * 8 + 6, none⟩ = some (.int .i64 (A k).dx) ∧ w'.cell? ⟨b, off + k * 8 + 7, none⟩ = some (.int .i64 (A k).dy)) := fun w' f => by
              have h := HA.out w' ((HW1.out.trans HPk.out.fr (fun _ _ h => h)).trans f (fun _ _ h => h))
              obtain ⟨b', off', e, hc⟩ := h.cells (by omega)
              simp only [Option.some.injEq, Addr.mk.injEq, and_true] at e
              obtain ⟨rfl, rfl⟩ := e
              have := hc k hkn
              rwa [e1, e2, e3, e4, hvv, hvr] at this
            generalize (A k).dx = dx at *
            generalize (A k).dy = dy at *
            generalize pixOf W (A k).l = P at *
            generalize pixOf V (A k).rl = R8 at *
            obtain ⟨R, HR⟩ : ∃ R, Hid (R = runL (newP N) (allL base A k)) := ⟨_, rfl⟩
            obtain ⟨R', HR'⟩ : ∃ R', Hid (R' = runL (newP N) (allL base A (k + 1))) := ⟨_, rfl⟩
            rw [← HR.out, ← HR'.out] at HRun
            rw [← HR.out] at HPk HOk
            have HP1 : Hid (∀ w', Pr w1 w' bc gc N gbk cbk br gt ct gs gz N gqk cqk R → Calls Try.prog 29 #[.pointer (some ⟨bc, 0, none⟩), .int .i64 base, .agg #[.int .i64 W, .int .i64 H, .slice va n0 vc], .agg #[.int .i64 V, .int .i64 U, .slice ra n1 rc], .int .i64 dx, .int .i64 dy] w' fun e w'' => e = .returned (.int .i64 0) ∧ ∃ gb' cb', CoAt w'' bc gc N gb' cb' R' ∧ CStep bc gc gbk gb' w' w'') := fun w' h => by
              rw [HRun.out]
              refine (rfput_ok bc gc N gbk cbk R base W H _ P V U _ R8 dx dy w' h.co HOk.out.1 (HBm.out w' (HW1.out.trans h.fr (fun _ _ h => h))) (fun w2 f2 => HBr.out w2 ((HW1.out.trans h.fr (fun _ _ h => h)).trans f2 (fun q hq e => by have := h.big; have := HW1.out.size; rcases e with e | e | e <;> omega))) hdx hdy (by rw [HOk.out.2.2, HN.out]; omega) (by have := HOk.out.2.1; omega)).mono ?_
              rintro e w'' ⟨rfl, gb', cb', a1, _, a2⟩
              exact ⟨rfl, gb', cb', a1, a2⟩
            have HP2 : Hid (∀ w', Fr (fun _ => False) w1 w' → ReAt w' br gt ct gs gz N gqk cqk R false → Calls Try.prog 30 #[.pointer (some ⟨br, 0, none⟩), .int .i64 base, .agg #[.int .i64 W, .int .i64 H, .slice va n0 vc], .agg #[.int .i64 V, .int .i64 U, .slice ra n1 rc], .int .i64 dx, .int .i64 dy] w' fun e w'' => e = .returned (.int .i64 0) ∧ ∃ gb' cb', ReAt w'' br gt ct gs gz N gb' cb' R' false ∧ RStep br gs gz gqk gb' w' w'') := fun w' f h => by
              rw [HRun.out]
              refine (rrput_ok br gt ct gs gz N gqk cqk R base W H _ P V U _ R8 dx dy w' h HOk.out.1 (fun w2 f2 => ⟨HBm.out w2 ((HW1.out.trans f (fun _ _ h => h)).trans f2 (fun q hq e => by have := HPk.out.big; have := HW1.out.size; rcases e with e | e | e | e <;> omega)), HBr.out w2 ((HW1.out.trans f (fun _ _ h => h)).trans f2 (fun q hq e => by have := HPk.out.big; have := HW1.out.size; rcases e with e | e | e | e <;> omega))⟩) hdx hdy (by omega) (by have := HOk.out.2.1; omega)).mono ?_
              rintro e w'' ⟨rfl, gb', cb', a1, _, a2⟩
              exact ⟨rfl, gb', cb', a1, a2⟩
            have HPa : Hid (Pr w1 (wr.alloc (.cells #[.int .i64 W, .int .i64 H, .slice va n0 vc, .int .i64 V, .int .i64 U, .slice ra n1 rc, .int .i64 dx, .int .i64 dy] 28)) bc gc N gbk cbk br gt ct gs gz N gqk cqk R) := HPk.out.kept ((Fr.refl _ _).alloc _)
            have HBo : Hid ((wr.alloc (.cells #[.int .i64 W, .int .i64 H, .slice va n0 vc, .int .i64 V, .int .i64 U, .slice ra n1 rc, .int .i64 dx, .int .i64 dy] 28)).heap[wr.heap.size]? = some (.cells #[.int .i64 W, .int .i64 H, .slice va n0 vc, .int .i64 V, .int .i64 U, .slice ra n1 rc, .int .i64 dx, .int .i64 dy] 28 (0, 0))) := heap_alloc_new wr _
            have HLt : Hid (bc < wr.heap.size ∧ gc < wr.heap.size ∧ gbk < wr.heap.size) := ⟨HPk.out.co.lt, HPk.out.co.xlt, HPk.out.co.blt⟩
            obtain ⟨c0, c1, c2, c3, c4, c5, c6, c7⟩ := HC.out _ (Fr.refl _ _)
            obtain ⟨q0, q1, q2, q3, q4, q5, q6, q7, qf⟩ := cell_of_eight HBo.out
            clear hbm hbr e1 e2 e3 e4 hvv hvr qf
            go_wp2_with fail
            generalize hwA : wr.alloc (.cells #[.int .i64 W, .int .i64 H, .slice va n0 vc, .int .i64 V, .int .i64 U, .slice ra n1 rc, .int .i64 dx, .int .i64 dy] 28) = wA at *
            clear hwA
            refine (HP1.out _ HPa.out).mono ?_
            rintro e w5 ⟨rfl, gb5, cb5, hc5, hs5⟩
            have hst := HPa.out.step1 hs5
            have HRE5 : Hid (ReAt w5 br gt ct gs gz N gqk cqk R false ∧ Fr (fun _ => False) w1 w5 ∧ w1.heap.size ≤ gb5 ∧ Apart3 bc gc gb5 br gt gs gz gqk) := hst
            have HC5 : Hid (CoAt w5 bc gc N gb5 cb5 R') := hc5
            have hb5 := (hs5.fr.block wr.heap.size (lt_of_block HBo.out) (fun e => by have := HLt.out; rcases e with e | e | e <;> omega)).trans HBo.out
            clear q0 q1 q2 q3 q4 q5 q6 q7 c0 c1 c2 c3 c4 c5 c6 c7
            obtain ⟨q0, q1, q2, q3, q4, q5, q6, q7, qf⟩ := cell_of_eight hb5
            clear hst hc5 hs5 hb5 qf p0
            go_wp2_with fail
            refine (HP2.out _ HRE5.out.2.1 HRE5.out.1).mono ?_
            rintro e w6 ⟨rfl, gq6, cq6, hr6, hs6⟩
            have HP6 : Hid (Pr w1 w6 bc gc N gb5 cb5 br gt ct gs gz N gq6 cq6 R') := by
              obtain ⟨b1, b2, b3, b4, b5, b6, b7⟩ := HPk.out.big
              exact Pr.step2 HC5.out HRE5.out.2.1 ⟨b1, b2, HRE5.out.2.2.1, b4, b5, b6, b7⟩ HRE5.out.2.2.2 hr6 hs6
            rw [HR'.out] at HP6
            clear hr6 hs6 q0 q1 q2 q3 q4 q5 q6 q7
            go_wp2_with fail
            exact ⟨⟨k + 1, gb5, cb5, gq6, cq6, by omega, congrArg (Value.int .i64) (by omega), HP6.out⟩, by simp only [intOf]; omega⟩
          · have hkM : k = i := by omega
            subst hkM
            have hdn : decide (k < n) = false := decide_eq_false (by have := HM.out; omega)
            obtain ⟨R, HR⟩ : ∃ R, Hid (R = runL (newP N) (allL base A k)) := ⟨_, rfl⟩
            rw [← HR.out] at HPk HOk
            go_wp2_with fail
            refine (flush_any wr bc gc N gbk cbk _ HPk.out.co HOk.out.1).mono ?_
            rintro e w5 ⟨gf, nf, cf, rfl, hsee, hdo, hstep, hne1, hne2⟩
            have HRE5 : Hid (ReAt w5 br gt ct gs gz N gqk cqk R false ∧ Fr (fun _ => False) w1 w5 ∧ w1.heap.size ≤ gf ∧ Apart3 bc gc gf br gt gs gz gqk) := HPk.out.step1 hstep
            have HSee5 : Hid (SeenAt w5 (.slice (some ⟨gf, 1, none⟩) nf cf) (flushP R.s)) := hsee
            have HDo5 : Hid (DoAt w5 bc gc N R.x) := hdo
            clear hsee hdo hstep hne1 hne2 p0
            go_wp2_with fail
            refine (rflush_any w5 br gt ct gs gz N gqk cqk _ HRE5.out.1 HOk.out.1).mono ?_
            rintro e w6 ⟨gr, Nr, cr, gq6, cq6, rfl, hor, hgr, hre6, hst6⟩
            have hgfS : ¬ (gf = br ∨ gf = gs ∨ gf = gz ∨ gf = gqk) := by
              have h := HRE5.out.2.2.2.a3
              exact fun e => e.elim h.1 (fun e => e.elim h.2.2.1 (fun e => e.elim h.2.2.2.1 h.2.2.2.2))
            have hbcS : ¬ (bc = br ∨ bc = gs ∨ bc = gz ∨ bc = gqk) := by
              have h := HRE5.out.2.2.2.a1
              exact fun e => e.elim h.1 (fun e => e.elim h.2.2.1 (fun e => e.elim h.2.2.2.1 h.2.2.2.2))
            have hgcS : ¬ (gc = br ∨ gc = gs ∨ gc = gz ∨ gc = gqk) := by
              have h := HRE5.out.2.2.2.a2
              exact fun e => e.elim h.1 (fun e => e.elim h.2.2.1 (fun e => e.elim h.2.2.2.1 h.2.2.2.2))
            have HF6 : Hid (Fr (fun _ => False) w1 w6) := HRE5.out.2.1.trans hst6.fr (fun q hq e => by have hb := HPk.out.big; rcases e with e | e | e | e <;> omega)
            have HSee : Hid (∀ w', Fr (fun _ => False) w6 w' → SeenAt w' (.slice (some ⟨gf, 1, none⟩) nf cf) (flushP R.s)) := fun w' hf => (HSee5.out.kept hst6.fr (fun q hq => by simp [Value.ownBlock] at hq; subst hq; exact hgfS)).kept hf (fun _ _ h => h)
            have HDo : Hid (∀ w', Fr (fun _ => False) w6 w' → DoAt w' bc gc N R.x) := fun w' hf => (HDo5.out.kept hst6.fr hbcS hgcS).kept hf (fun h => h) (fun h => h)
            have HBl : Hid (bc < w6.heap.size ∧ gc < w6.heap.size) := by
              have h := HDo.out w6 (Fr.refl _ _)
              obtain ⟨v1, v2, v3, v4, v5, hblk⟩ := h.blk
              exact ⟨lt_of_block hblk, (h.xs.lt gc rfl).2⟩
            have HRe : Hid (∀ w', Fr (fun _ => False) w6 w' → ReAt w' br gt ct gs gz N gq6 cq6 { R with s := flush2 R.s } true) := fun w' hf => hre6.kept hf (fun h => h) (fun h => h) (fun h => h) (fun h => h) (fun h => h)
            have HSq : Hid (∀ w', Fr (fun _ => False) w6 w' → SeenAt w' (.slice (some ⟨gr, 0, none⟩) Nr cr) (flushP R.s)) := fun w' hf => by
              have h := row_kept1 hor hf (fun h => h)
              have hl := h.1
              rw [length_byteCells, Nat.mul_one] at hl
              rw [← hl] at h
              obtain ⟨_, _, _, h6, _⟩ := HSee5.out
              have := SeenAt.of_row h h6
              rwa [hl] at this
            have HE1 : Hid (∀ w', Fr (fun _ => False) w6 w' → Calls Try.prog 14 #[.slice (some ⟨gf, 1, none⟩) nf cf, .slice (some ⟨gr, 0, none⟩) Nr cr] w' fun e w'' => e = .returned (.bool true) ∧ Fr (fun _ => False) w' w'') := fun w' hf => (eq_same _ _ _ _ w' (HSee.out _ hf) (HSq.out _ hf) rfl true (by show true = _; simp)).mono fun e w'' ⟨h1, q, h2⟩ => ⟨h1, by rw [h2]; exact (Fr.refl _ _).drewN q⟩
            have HSt : Hid (∀ (w' w'' : World) (g c : Nat), w'.ownsRow 0 5 1 (.slice (some ⟨g, 0, none⟩) N c) N (byteCells R.x) → SeenAt w' (.slice (some ⟨g, 0, none⟩) N c) R.x) := fun w' w'' g c h => by
              have hl := HOk.out.2.2
              have hb := HNb.out
              rw [← hl] at h ⊢
              exact SeenAt.of_row h (by omega)
            have HStD : Hid (∀ w', DoAt w' bc gc N R.x → Calls Try.prog 34 #[.pointer (some ⟨bc, 0, none⟩)] w' fun e w'' => ∃ g, e = .returned (.slice (some ⟨g, 0, none⟩) N N) ∧ SeenAt w'' (.slice (some ⟨g, 0, none⟩) N N) R.x ∧ Fr (fun _ => False) w' w'') := fun w' hd => by
              obtain ⟨v1, v2, v3, v4, v5, hblk⟩ := hd.blk
              have hl := HOk.out.2.2
              have h := states_at w' bc gc N R.x (by rw [hl]; exact HNb.out.1) (by rw [hl]; exact HNb.out.2) (cell_of_seven hblk).1 hd.xs
              rw [hl] at h
              exact h.mono fun e w'' ⟨g, h1, h2, h3, _⟩ => ⟨g, h1, HSt.out w'' w'' g N h2, h3⟩
            have HStR : Hid (∀ w', Fr (fun _ => False) w6 w' → Calls Try.prog 35 #[.pointer (some ⟨br, 0, none⟩)] w' fun e w'' => ∃ g c, e = .returned (.slice (some ⟨g, 0, none⟩) N c) ∧ SeenAt w'' (.slice (some ⟨g, 0, none⟩) N c) R.x ∧ Fr (fun _ => False) w' w'') := fun w' hf => by
              refine (rstates_at w' br gt ct gs gz N gq6 cq6 _ true (HRe.out _ hf) HNb.out.1 HNb.out.2 HOk.out.1.cells).mono ?_
              rintro e w'' ⟨rv, rfl, h2, h3, _⟩
              obtain ⟨g, c, rfl, _⟩ := h2.form HNb.out.1
              exact ⟨g, c, rfl, HSt.out w'' w'' g c h2, h3⟩
            have HBy : Hid (∀ y ∈ flushP R.s, y < 256) := flushP_lt HOk.out.1.ok
            have HND : Hid (∀ w', Fr (fun _ => False) w6 w' → Calls Try.prog 33 #[.slice (some ⟨gf, 1, none⟩) nf cf, .int .i64 ((base : Int) + 8192)] w' fun e w'' => ∃ bd gd vb, e = .returned (.tuple #[.pointer (some ⟨bd, 0, none⟩), .int .i64 0]) ∧ DeAt w'' bd gd N vb (flushP R.s) (newD (flushP R.s) N) ∧ Fr (fun _ => False) w' w'' ∧ w'.heap.size ≤ bd ∧ w'.heap.size ≤ gd ∧ ∀ k, vb.ownBlock = some k → w'.heap.size ≤ k) := fun w' hf => by
              rw [HNi.out]
              exact newDecoder_any w' _ (flushP R.s) N HNb.out.1 HNb.out.2 (HSee.out w' hf) (Or.inr ⟨_, _, _, rfl⟩) HBy.out
            clear hor hgr hre6 hst6 hgfS hbcS hgcS
            go_wp2_with fail
            refine (HND.out _ (Fr.refl _ _)).mono ?_
            rintro e w7 ⟨bd, gd, vb, rfl, hd7, hf7, hb7, hg7, hv7⟩
            have HF7 : Hid (Fr (fun _ => False) w6 w7) := hf7
            have HD7 : Hid (DeAt w7 bd gd N vb (flushP R.s) (newD (flushP R.s) N)) := hd7
            have HBd : Hid (w6.heap.size ≤ bd ∧ w6.heap.size ≤ gd ∧ ∀ q, vb.ownBlock = some q → w6.heap.size ≤ q) := ⟨hb7, hg7, hv7⟩
            clear hf7 hd7 hb7 hg7 hv7
            go_wp2_with fail
            go_region_held3 (fun _ => True) (trivial) (first | (go_at_call 14; first | (with_reducible refine (HE1.out _ (by repeat (first | with_reducible exact HF7.out | with_reducible refine Fr.drew ?_))).mono ?_; rintro e wC ⟨rfl, hfC⟩) | (refine (eq_same _ _ _ _ _ (hs8.kept hf9 (fun _ _ h => h)) hs9 rfl true (by show true = _; simp)).mono ?_; rintro e wB ⟨rfl, qB, hwB⟩)) | (go_at_call 34; refine (HStD.out _ (HDo.out _ (by repeat (first | with_reducible exact HF7.out | with_reducible refine Fr.drew ?_ | with_reducible refine Fr.trans ?_ hfC (fun _ _ hh => hh))))).mono ?_; rintro e w8 ⟨g8, rfl, hs8, hf8⟩) | (go_at_call 35; refine (HStR.out _ (by repeat (first | with_reducible exact HF7.out | with_reducible refine Fr.drew ?_ | with_reducible refine Fr.trans ?_ hf8 (fun _ _ hh => hh) | with_reducible refine Fr.trans ?_ hfC (fun _ _ hh => hh)))).mono ?_; rintro e w9 ⟨g9, c9, rfl, hs9, hf9⟩))
            subst hwB
            have HFB : Hid (Fr (fun _ => False) w7 (w9.drewN qB)) := (((((Fr.refl (fun _ => False) w7).drew.trans hfC (fun _ _ hh => hh)).trans hf8 (fun _ _ hh => hh)).trans hf9 (fun _ _ hh => hh))).drewN qB
            clear hfC hf8 hf9 hs8 hs9
            generalize w9.drewN qB = wB at *
            have HDB : Hid (DeAt wB bd gd N vb (flushP R.s) (decL N (allL base A k) (allL base A 0).length)) := by
              have h := HD7.out.keptAll HFB.out
              have e : decL N (allL base A k) (allL base A 0).length = newD (flushP R.s) N := by rw [HR.out]; rfl
              show DeAt _ _ _ _ _ _ _
              rw [e]; exact h
            have HX3 : Hid (∀ w', Fr (fun q => q = bd ∨ q = gd ∨ vb.ownBlock = some q) wB w' → Fr (fun _ => False) w1 w' ∧ DoAt w' bc gc N R.x) := fun w' f => by
              have f6 : Fr (fun q => q = bd ∨ q = gd ∨ vb.ownBlock = some q) w6 w' := ((HF7.out.trans HFB.out (fun _ _ h => h)).mono (fun _ _ h => h.elim)).trans f (fun _ _ h => h)
              have hb := HBd.out
              have hl := HBl.out
              refine ⟨HF6.out.trans f6 (fun q hq e => ?_), (HDo.out w6 (Fr.refl _ _)).kept f6 (fun e => ?_) (fun e => ?_)⟩
              · have := HF6.out.size
                rcases e with e | e | e
                · omega
                · omega
                · have := hb.2.2 _ e; omega
              · rcases e with e | e | e
                · omega
                · omega
                · have := hb.2.2 _ e; omega
              · rcases e with e | e | e
                · omega
                · omega
                · have := hb.2.2 _ e; omega
            have HBc : Hid (flushP R.s = codedB N (allL base A k)) := by rw [HR.out]; rfl
            obtain ⟨B, HB⟩ : ∃ B, Hid (B = flushP R.s) := ⟨_, rfl⟩
            rw [← HB.out] at HDB HBc HBy
            have HDd : Hid (∀ j, j ≤ k → Eok B (decL N (allL base A k) (allL base A j).length) ∧ (decL N (allL base A k) (allL base A j).length).made ≤ 20000 ∧ (decL N (allL base A k) (allL base A j).length).x.length = N) := fun j hj => by
              have h5 := HI5.out
              have hlj := allL_length (base := base) (w := w1) j (fun q hq => HGw.out w1 (Fr.refl _ _) q (by omega))
              have hlk := allL_length (base := base) (w := w1) k (fun q hq => HGw.out w1 (Fr.refl _ _) q (by omega))
              obtain ⟨post, epost⟩ := allL_front base A j (k - j)
              rw [show j + (k - j) = k by omega] at epost
              have hle : (allL base A j).length ≤ (allL base A k).length := by rw [epost, List.length_append]; omega
              obtain ⟨a1, a2⟩ := decRun_ok (n := N) HNb.out.1 HNb.out.2 (B := codedB N (allL base A k)) (by rw [← HBc.out]; exact HBy.out) (kOf (allL base A k)) (allL base A j).length (by omega)
              have a3 := (back_list (n := N) (L := allL base A k) HNb.out.1 HNb.out.2 (allL_bits base A k) (by omega) (allL base A j).length hle).1
              rw [← HBc.out] at a1
              refine ⟨?_, ?_, ?_⟩
              · unfold decL; rw [← HBc.out]; exact a1
              · unfold decL; rw [a2]; omega
              · rw [a3, (runL_ok (newP_ok (n := N) HNb.out.1 HNb.out.2) _ (by show 0 + _ ≤ _; rw [List.length_take]; omega)).2.2]; simp [newP]
            have HStx : Hid ((decL N (allL base A k) (allL base A k).length).x = R.x) := by
              rw [HR.out]
              exact row_states (w := w1) HNb.out.1 HNb.out.2 HI5.out.1 (HGw.out w1 (Fr.refl _ _))
            have HRb : Hid (∀ j, j < k → gotW B (akC (A j)) base (A j).x.toNat (A j).y.toNat (decL N (allL base A k) (allL base A j).length) = (decL N (allL base A k) (allL base A (j + 1)).length, cur (A j).x.toNat (pixOf (A j).x.toNat (A j).l) (A j).y.toNat 0)) := fun j hj => by
              rw [HBc.out]
              exact row_back (w := w1) HNb.out.1 HNb.out.2 HI5.out.1 (HGw.out w1 (Fr.refl _ _)) hj
            obtain ⟨D, HD⟩ : ∃ D : Nat → De, Hid (∀ j, D j = decL N (allL base A k) (allL base A j).length) := ⟨_, fun _ => rfl⟩
            rw [← HD.out] at HDB HStx
            have HDd2 : Hid (∀ j, j ≤ k → Eok B (D j) ∧ (D j).made ≤ 20000 ∧ (D j).x.length = N) := fun j hj => by rw [HD.out]; exact HDd.out j hj
            have HRb2 : Hid (∀ j, j < k → gotW B (akC (A j)) base (A j).x.toNat (A j).y.toNat (D j) = (D (j + 1), cur (A j).x.toNat (pixOf (A j).x.toNat (A j).l) (A j).y.toNat 0)) := fun j hj => by rw [HD.out, HD.out]; exact HRb.out j hj
            clear HDd HRb HSee5 HDo5 HRE5
            go_wp2_with fail
            go_loopw [17, 18, 19, 20] (fun a _ _ _ wq => ∃ j : Nat, j ≤ k ∧ a = .int .i64 j ∧ DeAt wq bd gd N vb B (D j) ∧ Fr (fun q => q = bd ∨ q = gd ∨ vb.ownBlock = some q) wB wq) (fun a _ _ _ _ => k - (intOf a).toNat)
            case atStart => exact ⟨0, by omega, rfl, HDB.out, Fr.refl _ _⟩
            case round =>
              obtain ⟨j, hj, rfl, hdj, hfj⟩ := hrel
              have HDj : Hid (DeAt wr bd gd N vb B (D j)) := hdj
              have HFj : Hid (Fr (fun q => q = bd ∨ q = gd ∨ vb.ownBlock = some q) wB wr) := hfj
              have HF1 : Hid (Fr (fun _ => False) w1 wr) := (HX3.out wr hfj).1
              clear hdj hfj
              obtain ⟨p0, -⟩ := HBX.out _ (HFr.out.trans HF1.out (fun _ _ h => h))
              by_cases hjk : j < k
              · have hj5 : j < 5 := by have := HI5.out; omega
                have hjn : j < n := by have := HI5.out; omega
                have hdj : decide ((j : Int) < 5) = true := decide_eq_true (by omega)
                obtain ⟨b, off, hao, -⟩ := (HA.out wr (HW1.out.trans HF1.out (fun _ _ h => h))).cells (by omega)
                subst hao
                obtain ⟨W, H, V, U, e1, e2, e3, e4, hbm, hbr, h6, h12, hdx, hdy⟩ := (HG.out j hjk).form ((HA.out w (Fr.refl _ _)).ok j hjn)
                obtain ⟨va, vc, hvv, -, -⟩ := ((HA.out w (Fr.refl _ _)).ok j hjn).b.hv
                obtain ⟨ra, rc, hvr, -, -⟩ := ((HA.out w (Fr.refl _ _)).ok j hjn).r.hv
                obtain ⟨n0, HN0⟩ : ∃ n0, Hid (n0 = (A j).l.length) := ⟨_, rfl⟩
                rw [← HN0.out] at hvv
                rw [hvv] at hbm
                obtain ⟨n1, HN1⟩ : ∃ n1, Hid (n1 = (A j).rl.length) := ⟨_, rfl⟩
                rw [← HN1.out] at hvr
                rw [hvr] at hbr
                have HBr : Hid (∀ w', Fr (fun _ => False) w w' → Bm w' (.slice ra n1 rc) V U (pixOf V (A j).rl)) := fun w' f => hbr.kept f
                have HBm : Hid (∀ w', Fr (fun _ => False) w w' → Bm w' (.slice va n0 vc) W H (pixOf W (A j).l)) := fun w' f => hbm.kept f
                have HC : Hid (∀ w', Fr (fun _ => False) wr w' → w'.cell? ⟨b, off + j * 8, none⟩ = some (.int .i64 W) ∧ w'.cell? ⟨b, off + j * 8 + 1, none⟩ = some (.int .i64 H) ∧ w'.cell? ⟨b, off + j * 8 + 2, none⟩ = some (.slice va n0 vc) ∧ w'.cell? ⟨b, off + j * 8 + 3, none⟩ = some (.int .i64 V) ∧ w'.cell? ⟨b, off + j * 8 + 4, none⟩ = some (.int .i64 U) ∧ w'.cell? ⟨b, off + j * 8 + 5, none⟩ = some (.slice ra n1 rc) ∧ w'.cell? ⟨b, off + j * 8 + 6, none⟩ = some (.int .i64 (A j).dx) ∧ w'.cell? ⟨b, off + j * 8 + 7, none⟩ = some (.int .i64 (A j).dy)) := fun w' f => by
                  have h := HA.out w' ((HW1.out.trans HF1.out (fun _ _ h => h)).trans f (fun _ _ h => h))
                  obtain ⟨b', off', e, hc⟩ := h.cells (by omega)
                  simp only [Option.some.injEq, Addr.mk.injEq, and_true] at e
                  obtain ⟨rfl, rfl⟩ := e
                  have := hc j hjn
                  rwa [e1, e2, e3, e4, hvv, hvr] at this
                have hgot := HRb2.out j hjk
                unfold akC at hgot
                rw [e1, e2, e3, e4] at hgot
                simp only [Int.toNat_natCast] at hgot
                have HGot : Hid (gotW B (cxR W (refP V U (pixOf V (A j).rl) (A j).dx (A j).dy)) base W H (D j) = (D (j + 1), cur W (pixOf W (A j).l) H 0)) := hgot
                clear hgot
                generalize (A j).dx = dx at *
                generalize (A j).dy = dy at *
                generalize pixOf W (A j).l = P at *
                generalize pixOf V (A j).rl = R8 at *
                obtain ⟨f1, f2, f3⟩ := size_facts hbm.h1 hbm.h2 hbm.h3
                obtain ⟨m0, HM0⟩ : ∃ m0, Hid (m0 = H * stride W) := ⟨_, rfl⟩
                have HGt : Hid (∀ w', Fr (fun q => q = bd ∨ q = gd ∨ vb.ownBlock = some q) wB w' → DeAt w' bd gd N vb B (D j) → Calls Try.prog 36 #[.pointer (some ⟨bd, 0, none⟩), .int .i64 base, .int .i64 W, .int .i64 H, .agg #[.int .i64 V, .int .i64 U, .slice ra n1 rc], .int .i64 dx, .int .i64 dy] w' fun e w'' => ∃ g cap, e = .returned (.tuple #[.agg #[.int .i64 W, .int .i64 H, .slice (some ⟨g, 0, none⟩) m0 cap], .int .i64 0]) ∧ Seen w'' (.slice (some ⟨g, 0, none⟩) m0 cap) (render W H P) ∧ DeAt w'' bd gd N vb B (D (j + 1)) ∧ Fr (fun q => q = bd ∨ q = gd ∨ vb.ownBlock = some q) w' w'') := fun w' ff hd => by
                  have hdd := HDd2.out j (by omega)
                  refine (rfget_ok bd gd N vb B (D j) base W H V U _ R8 dx dy w' hd hdd.1 hbm.h1 hbm.h2 hbm.h3 (fun w2 f2 => HBr.out w2 (HW1.out.trans (HX3.out w2 (ff.trans f2 (fun _ _ h => h))).1 (fun _ _ h => h))) hdx hdy (by rw [hdd.2.2, HN.out]; omega) (by have := hdd.2.1; omega)).mono ?_
                  rintro e w'' ⟨g, cap, rfl, hr, _, hd2, _, hf⟩
                  rw [HGot.out] at hr hd2
                  have hs := hr.seen f3
                  rw [render_congr (fun x y hx hy => cur_all W _ H x y hx hy)] at hs
                  rw [HM0.out]
                  exact ⟨g, cap, rfl, hs, hd2, hf⟩
                have HQ : Hid (∀ (w' : World) (v1 : Value), Fr (fun _ => False) w w' → Seen w' v1 (render W H P) → Calls Try.prog 21 #[.agg #[.int .i64 W, .int .i64 H, v1], .agg #[.int .i64 W, .int .i64 H, .slice va n0 vc]] w' fun e w'' => e = .returned (.bool true) ∧ Fr (fun _ => False) w' w'') := fun w' v1 f s1 => eqBitmap_same W H v1 _ _ w' s1 (HBm.out w' f).seen
                have HDa : Hid (DeAt (wr.alloc (.cells #[.int .i64 W, .int .i64 H, .slice va n0 vc, .int .i64 V, .int .i64 U, .slice ra n1 rc, .int .i64 dx, .int .i64 dy] 28)) bd gd N vb B (D j)) := HDj.out.keptAll ((Fr.refl _ _).alloc _)
                have HBo : Hid ((wr.alloc (.cells #[.int .i64 W, .int .i64 H, .slice va n0 vc, .int .i64 V, .int .i64 U, .slice ra n1 rc, .int .i64 dx, .int .i64 dy] 28)).heap[wr.heap.size]? = some (.cells #[.int .i64 W, .int .i64 H, .slice va n0 vc, .int .i64 V, .int .i64 U, .slice ra n1 rc, .int .i64 dx, .int .i64 dy] 28 (0, 0))) := heap_alloc_new wr _
                have HFa : Hid (Fr (fun q => q = bd ∨ q = gd ∨ vb.ownBlock = some q) wB (wr.alloc (.cells #[.int .i64 W, .int .i64 H, .slice va n0 vc, .int .i64 V, .int .i64 U, .slice ra n1 rc, .int .i64 dx, .int .i64 dy] 28))) := HFj.out.alloc _
                have HLt : Hid (bd < wr.heap.size ∧ gd < wr.heap.size ∧ ∀ q, vb.ownBlock = some q → q < wr.heap.size) := ⟨HDj.out.lt, HDj.out.xlt, fun q hq => (HDj.out.bs.lt q hq).2⟩
                obtain ⟨c0, c1, c2, c3, c4, c5, c6, c7⟩ := HC.out _ (Fr.refl _ _)
                obtain ⟨q0, q1, q2, q3, q4, q5, q6, q7, qf⟩ := cell_of_eight HBo.out
                clear hbm hbr e1 e2 e3 e4 hvv hvr qf f1 f2 f3
                go_wp2_with fail
                generalize hwA : wr.alloc (.cells #[.int .i64 W, .int .i64 H, .slice va n0 vc, .int .i64 V, .int .i64 U, .slice ra n1 rc, .int .i64 dx, .int .i64 dy] 28) = wA at *
                clear hwA
                refine (HGt.out _ HFa.out HDa.out).mono ?_
                rintro e w8 ⟨g8, c8, rfl, hs8, hd8, hf8⟩
                have hb8 := (hf8.block wr.heap.size (lt_of_block HBo.out) (fun e => by
                  have h := HLt.out
                  rcases e with e | e | e
                  · omega
                  · omega
                  · have := h.2.2 _ e; omega)).trans HBo.out
                have HFe : Hid (Fr (fun q => q = bd ∨ q = gd ∨ vb.ownBlock = some q) wB (w8.alloc (.cells #[.int .i64 W, .int .i64 H, .slice (some ⟨g8, 0, none⟩) m0 c8] 26))) := (HFa.out.trans hf8 (fun _ _ h => h)).alloc _
                have HDe : Hid (DeAt (w8.alloc (.cells #[.int .i64 W, .int .i64 H, .slice (some ⟨g8, 0, none⟩) m0 c8] 26)) bd gd N vb B (D (j + 1))) := hd8.keptAll ((Fr.refl _ _).alloc _)
                have HQ8 : Hid (Calls Try.prog 21 #[.agg #[.int .i64 W, .int .i64 H, .slice (some ⟨g8, 0, none⟩) m0 c8], .agg #[.int .i64 W, .int .i64 H, .slice va n0 vc]] (w8.alloc (.cells #[.int .i64 W, .int .i64 H, .slice (some ⟨g8, 0, none⟩) m0 c8] 26)) fun e w'' => e = .returned (.bool true) ∧ Fr (fun _ => False) (w8.alloc (.cells #[.int .i64 W, .int .i64 H, .slice (some ⟨g8, 0, none⟩) m0 c8] 26)) w'') := HQ.out _ _ (HW1.out.trans (HX3.out _ HFe.out).1 (fun _ _ h => h)) (hs8.kept ((Fr.refl (fun _ => False) w8).alloc _))
                obtain ⟨x0, x1, x2, xf⟩ := cell_of_three (heap_alloc_new w8 (.cells #[.int .i64 W, .int .i64 H, .slice (some ⟨g8, 0, none⟩) m0 c8] 26))
                clear q0 q1 q2 q3 q4 q5 q6 q7 c0 c1 c2 c3 c4 c5 c6 c7 p0 xf
                have hb9 : (w8.alloc (.cells #[.int .i64 W, .int .i64 H, .slice (some ⟨g8, 0, none⟩) m0 c8] 26)).heap[wr.heap.size]? = some (.cells #[.int .i64 W, .int .i64 H, .slice va n0 vc, .int .i64 V, .int .i64 U, .slice ra n1 rc, .int .i64 dx, .int .i64 dy] 28 (0, 0)) := (Below.heap_alloc _ _ _ (lt_of_block hb8)).trans hb8
                obtain ⟨q0, q1, q2, q3, q4, q5, q6, q7, qf⟩ := cell_of_eight hb9
                clear hs8 hd8 hf8 hb8 hb9 qf
                go_wp2_with fail
                generalize w8.alloc (.cells #[.int .i64 W, .int .i64 H, .slice (some ⟨g8, 0, none⟩) m0 c8] 26) = wE at *
                refine HQ8.out.mono ?_
                rintro e w10 ⟨rfl, hf10⟩
                have HDf : Hid (DeAt w10 bd gd N vb B (D (j + 1)) ∧ Fr (fun q => q = bd ∨ q = gd ∨ vb.ownBlock = some q) wB w10) := ⟨HDe.out.keptAll hf10, HFe.out.trans hf10 (fun _ _ h => h.elim)⟩
                clear hf10 x0 x1 x2 q0 q1 q2 q3 q4 q5 q6 q7
                go_wp2_with fail
                exact ⟨⟨j + 1, by omega, congrArg (Value.int .i64) (by omega), HDf.out.1, HDf.out.2⟩, by simp only [intOf]; omega⟩
              · have hjM : j = k := by omega
                subst hjM
                have hdn : decide (j < n) = false := decide_eq_false (by have := HM.out; omega)
                have HStE : Hid (∀ w', Fr (fun _ => False) wr w' → Calls Try.prog 34 #[.pointer (some ⟨bd, 0, none⟩)] w' fun e w'' => ∃ g, e = .returned (.slice (some ⟨g, 0, none⟩) N N) ∧ SeenAt w'' (.slice (some ⟨g, 0, none⟩) N N) R.x ∧ Fr (fun _ => False) w' w'') := fun w' f => by
                  have hd := HDj.out.keptAll f
                  have hblk := hd.blk
                  have hxs := hd.xs
                  have hl := HOk.out.2.2
                  rw [HStx.out] at hblk hxs
                  have h := states_at w' bd gd N R.x (by rw [hl]; exact HNb.out.1) (by rw [hl]; exact HNb.out.2) (cell_of_seven hblk).1 hxs
                  rw [hl] at h
                  exact h.mono fun e w'' ⟨g, h1, h2, h3, _⟩ => ⟨g, h1, HSt.out w'' w'' g N h2, h3⟩
                have HStF : Hid (∀ w', Fr (fun _ => False) wr w' → Calls Try.prog 34 #[.pointer (some ⟨bc, 0, none⟩)] w' fun e w'' => ∃ g, e = .returned (.slice (some ⟨g, 0, none⟩) N N) ∧ SeenAt w'' (.slice (some ⟨g, 0, none⟩) N N) R.x ∧ Fr (fun _ => False) w' w'') := fun w' f => HStD.out w' ((HX3.out w' (HFj.out.trans f (fun _ _ h => h.elim))).2)
                have HEnd : Hid (∀ w', Fr (fun _ => False) wr w' → Fr (fun _ => False) w w') := fun w' f => (HW1.out.trans HF1.out (fun _ _ h => h)).trans f (fun _ _ h => h)
                have HWa : Hid (∀ w', Calls Try.prog 15 #[] w' fun e w'' => e = .returned (.bool true) ∧ Fr (fun _ => False) w' w'') := fun w' => wakes8 w'
                clear HStD HStR HE1 HND
                go_wp2_with fail
                go_region_held3 (fun _ => True) (trivial) (first | (go_at_call 34; first | (with_reducible refine (HStF.out _ (by repeat (first | with_reducible exact Fr.refl _ _ | with_reducible refine Fr.drew ?_))).mono ?_; rintro e wS ⟨gS, rfl, hsS, hfS⟩) | (with_reducible refine (HStE.out _ (by repeat (first | with_reducible exact Fr.refl _ _ | with_reducible refine Fr.drew ?_ | with_reducible refine Fr.trans ?_ hfS (fun _ _ hh => hh)))).mono ?_; rintro e wT ⟨gT, rfl, hsT, hfT⟩)) | (go_at_call 14; refine (eq_same _ _ _ _ _ (hsS.kept hfT (fun _ _ h => h)) hsT rfl true (by show true = _; simp)).mono ?_; rintro e wU ⟨rfl, qU, hwU⟩) | (go_at_call 15; refine (HWa.out _).mono ?_; rintro e wV ⟨rfl, hfV⟩))
                have HFV : Hid (Fr (fun _ => False) w wV) := by
                  subst hwU
                  exact HEnd.out _ ((((((Fr.refl (fun _ => False) wr).drew.trans hfS (fun _ _ hh => hh)).trans hfT (fun _ _ hh => hh))).drewN qU).trans hfV (fun _ _ hh => hh))
                clear hfS hfT hfV hsS hsT
                go_wp2_with fail
                go_ret
                exact ⟨rfl, HFV.out⟩

end Go.Proofs.Ytmfpoabhmpljgaa
