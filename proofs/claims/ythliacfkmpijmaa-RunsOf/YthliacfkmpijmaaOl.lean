/- The law 'RunsOf'. -/
import Derived.Test.YthliacfkmpijmaaRo
import Derived.Test.YthliacfkmpijmaaOs
import Derived.Test.YthliacfkmpijmaaOp
import Derived.Test.YthliacfkmpijmaaLe
namespace Go.Proofs.Ythliacfkmpijmaa
open Go.RowKit

/-- What Of answers to anything, and the document's own. -/
theorem ofs_all (x y : Int) (l : List Nat) (hx : -9223372036854775808 ≤ x ∧ x ≤ 9223372036854775807) (hy : -9223372036854775808 ≤ y ∧ y ≤ 9223372036854775807) (hlt : ∀ j : Nat, l[j]?.getD 0 < 18446744073709551616) :
    ∃ (K : Nat) (L : Nat → List (Nat × Nat)) (er : Int), K ≤ 1048576 ∧ (∀ y, (L y).length ≤ 1048577) ∧
      (∀ (w : World) (v : Value), Seen w v l → CapOK v → Calls Try.prog 10 #[.agg #[.int .i64 x, .int .i64 y, v]] w fun e w' => ∃ rv vs, e = .returned (.tuple #[rv, .int .i64 er]) ∧ AppRR w' w.heap.size rv K L vs ∧ Sep vs K ∧ Fr (fun _ => False) w w') ∧
      (∀ (w : World) (v : Value), Seen w v l → CapOK v → Calls Try.prog 8 #[.agg #[.int .i64 x, .int .i64 y, v]] w fun e w' => ∃ rv vs, e = .returned (.tuple #[rv, .int .i64 er]) ∧ AppRR w' w.heap.size rv K L vs ∧ Fr (fun _ => False) w w') := by
  cases hval : validB x y l with
  | false =>
    refine ⟨0, fun _ => [], 80, by omega, fun _ => by simp, fun w v hv _ => ?_, fun w v hv _ => ?_⟩
    · exact (of_bad x y v l w hx hy hv hlt hval).mono (fun e w' h => ⟨.slice none 0 0, [], h.1, ⟨World.ownsRow_nil _ _ _ _, fun y hy => absurd hy (Nat.not_lt_zero _)⟩, Sep.zero _, h.2⟩)
    · exact (rof_bad x y v l w hx hy hv hlt hval).mono (fun e w' h => ⟨.slice none 0 0, [], h.1, ⟨World.ownsRow_nil _ _ _ _, fun y hy => absurd hy (Nat.not_lt_zero _)⟩, h.2⟩)
  | true =>
    have hv' := hval
    unfold validB at hv'
    simp only [Bool.and_eq_true, decide_eq_true_eq] at hv'
    obtain ⟨⟨hs, hl⟩, hr⟩ := hv'
    unfold sizeOK at hs
    obtain ⟨s1, s2, s3⟩ := of_decide_eq_true hs
    obtain ⟨W, rfl⟩ : ∃ W : Nat, x = W := ⟨x.toNat, by omega⟩
    obtain ⟨H, rfl⟩ : ∃ H : Nat, y = H := ⟨y.toNat, by omega⟩
    have e := valid_render W H l (by omega) hl hr hlt
    have s4 : W * H ≤ 1048576 := by rw [← Int.natCast_mul] at s3; omega
    obtain ⟨f1, f2, f3⟩ := size_facts (W := W) (H := H) (by omega) (by omega) s4
    generalize pixOf W l = P at e
    refine ⟨H, fun y => rl (fun x => P x y) W, 0, f2, fun y => Nat.le_trans (rl_len (fun x => P x y) W) (by omega), fun w v hv hc => ?_, fun w v hv hc => ?_⟩
    · refine (of_sep W H v P w ⟨by rw [← e]; exact hv, hc, by omega, by omega, s4⟩).mono (fun e w' h => ?_)
      obtain ⟨g, vs, he, ho, hsp, hf⟩ := h
      exact ⟨_, vs, he, ⟨ho.own, ho.at_⟩, hsp, hf⟩
    · refine (rof_ok W H v P w ⟨by rw [← e]; exact hv, hc, by omega, by omega, s4⟩).mono (fun e w' h => ?_)
      obtain ⟨rv, vs, he, ho, hf⟩ := h
      exact ⟨_, vs, he, ho, hf⟩

/-- Rows from N on, as they were made. -/
structure RestRR (w : World) (base : Nat) (v : Value) (K N : Nat) (L : Nat → List (Nat × Nat)) (vs : List Value) : Prop where
  own : w.ownsRow base 33 1 v K vs
  at_ : ∀ y, N ≤ y → y < K → w.ownsRow base 35 2 (vs[y]?.getD (.slice none 0 0)) (L y).length (runCells (L y))
theorem RestRR.kept {S : Nat → Prop} {w w' : World} {base K N : Nat} {v : Value} {L : Nat → List (Nat × Nat)} {vs : List Value} (h : RestRR w base v K N L vs) (f : Fr S w w') (h1 : ∀ i, v.ownBlock = some i → ¬ S i) (h2 : ∀ y, N ≤ y → y < K → ∀ i, (vs[y]?.getD (.slice none 0 0)).ownBlock = some i → ¬ S i) : RestRR w' base v K N L vs :=
  ⟨row_kept h.own f h1, fun y a b => row_kept (h.at_ y a b) f (h2 y a b)⟩
theorem RestRR.next {w : World} {base K N : Nat} {v : Value} {L : Nat → List (Nat × Nat)} {vs : List Value} (h : RestRR w base v K N L vs) : RestRR w base v K (N + 1) L vs := ⟨h.own, fun y a b => h.at_ y (by omega) b⟩

set_option maxRecDepth 100000 in
set_option maxHeartbeats 8000000 in
theorem ofLaw_any (ao : Option Addr) (n cap : Nat) (A : Nat → Bp) (w : World) (h : BpsAt w ao n A) :
    Calls Try.prog 3 #[.slice ao n cap] w fun e w' => e = .returned (.bool true) ∧ Fr (fun _ => False) w w' := by
  obtain ⟨i0, hi, hz0, hz1, hz2⟩ := info_parts Try.infoRun
  have hl := h.len
  have HC : Hid (∀ j, j < n → ∃ b off ao1 cap1, ao = some ⟨b, off, none⟩ ∧ BpOK w (A j) ∧ (A j).v = .slice ao1 (A j).l.length cap1 ∧ ∀ w', Fr (fun _ => False) w w' → w'.cell? ⟨b, off + j * 3, none⟩ = some (.int .i64 (A j).x) ∧ w'.cell? ⟨b, off + j * 3 + 1, none⟩ = some (.int .i64 (A j).y) ∧ w'.cell? ⟨b, off + j * 3 + 2, none⟩ = some (A j).v) := fun j hj => by
    have hok := h.ok j hj
    obtain ⟨ao1, cap1, e1, _, _⟩ := hok.hv
    obtain ⟨b, off, e2, hc⟩ := h.cells (by omega)
    obtain ⟨k0, k1, k2⟩ := hc j hj
    exact ⟨b, off, ao1, cap1, e2, hok, e1, fun w' f => ⟨by rw [f.cellEq (seen_lt k0) (fun h => h)]; exact k0, by rw [f.cellEq (seen_lt k1) (fun h => h)]; exact k1, by rw [f.cellEq (seen_lt k2) (fun h => h)]; exact k2⟩⟩
  clear h
  go_enter Try.func3, Try.ntmps3
  go_wp2_with fail
  go_loopg [3, 4, 5, 6, 7, 8, 9, 10, 11, 12] 6 (fun q i _ _ _ _ _ _ _ _ _ wr => ∃ j : Nat, j + q = 6 ∧ i = .int .i64 j ∧ Fr (fun _ => False) w wr)
  case atStart => exact ⟨0, by omega, rfl, Fr.refl _ _⟩
  case round =>
    obtain ⟨j, hjq, rfl, hfr⟩ := hrel
    have HFr : Hid (Fr (fun _ => False) w wr) := hfr
    clear hfr
    by_cases hjn : j < n ∧ j < 6
    · obtain ⟨hj1, hj2⟩ := hjn
      have d1 : decide (j < n) = true := decide_eq_true hj1
      have d2 : decide (j < 6) = true := decide_eq_true hj2
      obtain ⟨b, off, ao1, cap1, rfl, hok, hev, hk⟩ := HC.out j hj1
      rw [hev] at hk
      have HCL : Hid (∀ w', Fr (fun _ => False) w w' → w'.cell? ⟨b, off + j * 3, none⟩ = some (.int .i64 (A j).x) ∧ w'.cell? ⟨b, off + j * 3 + 1, none⟩ = some (.int .i64 (A j).y) ∧ w'.cell? ⟨b, off + j * 3 + 2, none⟩ = some (.slice ao1 (A j).l.length cap1)) := hk
      have HSN : Hid (∀ w', Fr (fun _ => False) w w' → Seen w' (.slice ao1 (A j).l.length cap1) (A j).l) := fun w' f => by have := hok.hv.kept f; rwa [hev] at this
      have HCP : Hid (CapOK (.slice ao1 (A j).l.length cap1)) := by have := hok.hc; rwa [hev] at this
      have HNL : Hid (NilOK (.slice ao1 (A j).l.length cap1)) := by have := hok.hn; rwa [hev] at this
      obtain ⟨K, L, er, hK, HLb, HOF, HRF⟩ := ofs_all (A j).x (A j).y (A j).l hok.hx hok.hy hok.hlt
      have HLB : Hid (∀ y, (L y).length ≤ 1048577) := HLb
      have HPO : Hid (∀ (w : World) (v : Value), Seen w v (A j).l → CapOK v → Calls Try.prog 10 #[.agg #[.int .i64 (A j).x, .int .i64 (A j).y, v]] w fun e w' => ∃ rv vs, e = .returned (.tuple #[rv, .int .i64 er]) ∧ AppRR w' w.heap.size rv K L vs ∧ Sep vs K ∧ Fr (fun _ => False) w w') := HOF
      have HPR : Hid (∀ (w : World) (v : Value), Seen w v (A j).l → CapOK v → Calls Try.prog 8 #[.agg #[.int .i64 (A j).x, .int .i64 (A j).y, v]] w fun e w' => ∃ rv vs, e = .returned (.tuple #[rv, .int .i64 er]) ∧ AppRR w' w.heap.size rv K L vs ∧ Fr (fun _ => False) w w') := HRF
      clear hk hok hev HLb HOF HRF
      obtain ⟨ll, hll⟩ : ∃ ll, ll = (A j).l := ⟨_, rfl⟩
      rw [← hll] at HCL HSN HCP HNL HPO HPR
      clear hll
      generalize (A j).x = x at *
      generalize (A j).y = y at *
      obtain ⟨nl, hnl⟩ : ∃ nl, nl = ll.length := ⟨_, rfl⟩
      have HNN : Hid (nl = ll.length) := hnl
      rw [← hnl] at HCL HSN HCP HNL
      clear hnl
      obtain ⟨c0, c1, c2⟩ := HCL.out wr HFr.out
      by_cases hbig : 937 < nl
      · have d3 : decide (937 < nl) = true := decide_eq_true hbig
        go_wp2_with fail
        go_roundg (6 - (j + 1))
        case measure => omega
        case rel => exact ⟨j + 1, by omega, congrArg (Value.int .i64) (by omega), HFr.out⟩
      · have d3 : decide (937 < nl) = false := decide_eq_false hbig
        go_wp2_with fail
        refine (HPR.out wr _ (HSN.out _ HFr.out) HCP.out).mono ?_
        rintro e w1 ⟨wv, ws, rfl, ha1, hf1⟩
        have HF1 : Hid (Fr (fun _ => False) w w1) := HFr.out.trans hf1 (fun _ _ h => h)
        have HW1 : Hid (∀ w', Fr (fun _ => False) w1 w' → SeenRR w' wv (upRows K L)) := fun w' f => (ha1.kept f (fun _ h => h.elim)).seen (by omega) (fun y _ => by have := HLB.out y; omega)
        clear ha1 hf1 c0 c1 c2
        go_wp2_with fail
        go_loopg [6, 7, 8, 9, 10, 11, 12] 2 (fun q kv _ _ _ _ _ _ wr => ∃ k : Nat, k + q = 2 ∧ kv = .int .i64 k ∧ Fr (fun _ => False) w1 wr)
        case atStart => exact ⟨0, by omega, rfl, Fr.refl _ _⟩
        case round =>
          clear HFr
          obtain ⟨k, hkq, rfl, hfr⟩ := hrel
          have HFr : Hid (Fr (fun _ => False) w1 wr) := hfr
          clear hfr
          by_cases hk2 : k < 2
          · have dk : decide (k < 2) = true := decide_eq_true hk2
            obtain ⟨c0, c1, c2⟩ := HCL.out wr (HF1.out.trans HFr.out (fun _ _ h => h))
            go_wp2_with fail
            have HLD : Hid (Calls Try.prog 9 #[.agg #[.int .i64 x, .int .i64 y, .slice ao1 nl cap1]] wr fun e w' => ∃ g, e = .returned (.agg #[.int .i64 x, .int .i64 y, .slice (some ⟨g, 0, none⟩) nl (nl + 7)]) ∧ Lent w' g ll ∧ wr.heap.size ≤ g ∧ Fr (fun _ => False) wr w') := by
              have := lendB_any x y _ ll wr (HSN.out _ (HF1.out.trans HFr.out (fun _ _ h => h))) HNL.out (by have := HNN.out; omega)
              rwa [← HNN.out] at this
            refine HLD.out.mono ?_
            rintro e w2 ⟨g, rfl, hl2, hg2, hf2⟩
            clear HLD
            have HL2 : Hid (∀ w', Fr (fun _ => False) w2 w' → Lent w' g ll) := fun w' f => hl2.kept f (fun h => h)
            have HG2 : Hid (wr.heap.size ≤ g ∧ g < w2.heap.size) := ⟨hg2, hl2.lt⟩
            have HF2 : Hid (Fr (fun _ => False) w1 (w2.alloc (.cells #[.int .i64 x, .int .i64 y, .slice (some ⟨g, 0, none⟩) nl (nl + 7)] 25))) := (HFr.out.trans hf2 (fun _ _ h => h)).alloc _
            have HBX : Hid (∀ w', Fr (fun k => k = g) (w2.alloc (.cells #[.int .i64 x, .int .i64 y, .slice (some ⟨g, 0, none⟩) nl (nl + 7)] 25)) w' → w'.cell? ⟨w2.heap.size, 0, none⟩ = some (.int .i64 x) ∧ w'.cell? ⟨w2.heap.size, 1, none⟩ = some (.int .i64 y) ∧ w'.cell? ⟨w2.heap.size, 2, none⟩ = some (.slice (some ⟨g, 0, none⟩) nl (nl + 7))) := fun w' hf => by
              obtain ⟨q0, q1, q2, _⟩ := cell_of_three ((hf.block w2.heap.size (by simp) (by have := HG2.out; omega)).trans (heap_alloc_new w2 _))
              exact ⟨q0, q1, q2⟩
            have HL3 : Hid (Fr (fun _ => False) w2 (w2.alloc (.cells #[.int .i64 x, .int .i64 y, .slice (some ⟨g, 0, none⟩) nl (nl + 7)] 25))) := (Fr.refl _ _).alloc _
            clear hl2 hg2 hf2 c0 c1 c2
            go_wp2_with fail
            generalize w2.alloc (.cells #[.int .i64 x, .int .i64 y, .slice (some ⟨g, 0, none⟩) nl (nl + 7)] 25) = w3 at *
            have HPO3 := HPO.out w3 (.slice (some ⟨g, 0, none⟩) nl (nl + 7)) (by have := (HL2.out _ HL3.out).seen (by have := HNN.out; omega); rwa [← HNN.out] at this) (fun ao n c e => by cases e; exact ⟨by omega, by unfold maxLen; omega⟩)
            refine HPO3.mono ?_
            rintro e w4 ⟨rv, vs, rfl, ha4, hsp4, hf4⟩
            clear HPO3
            have HFg : Hid (∀ w', Fr (fun k => k = g) w4 w' → Fr (fun _ => False) w1 w') := fun w' f => (HF2.out.trans hf4 (fun _ _ h => h)).trans f (fun i hi e => by have := HG2.out; have := HFr.out.size; omega)
            have HS : Hid (∀ w', Fr (fun k => k = g) w4 w' → (w'.cell? ⟨w2.heap.size, 0, none⟩ = some (.int .i64 x) ∧ w'.cell? ⟨w2.heap.size, 1, none⟩ = some (.int .i64 y) ∧ w'.cell? ⟨w2.heap.size, 2, none⟩ = some (.slice (some ⟨g, 0, none⟩) nl (nl + 7))) ∧ (w'.cell? ⟨b, off + j * 3, none⟩ = some (.int .i64 x) ∧ w'.cell? ⟨b, off + j * 3 + 1, none⟩ = some (.int .i64 y) ∧ w'.cell? ⟨b, off + j * 3 + 2, none⟩ = some (.slice ao1 nl cap1))) := fun w' f => ⟨HBX.out _ ((hf4.mono (fun _ _ h => h.elim)).trans f (fun _ _ h => h)), HCL.out _ (HF1.out.trans (HFg.out _ f) (fun _ _ h => h))⟩
            have HGB : Hid (g < w3.heap.size) := by have := HG2.out; have := HL3.out.size; show _ < _; omega
            have HBK : Hid (∀ w', Fr (fun _ => False) w4 w' → Calls Try.prog 11 #[.agg #[.int .i64 x, .int .i64 y, .slice (some ⟨g, 0, none⟩) nl (nl + 7)], .agg #[.int .i64 x, .int .i64 y, .slice ao1 nl cap1]] w' fun e w'' => e = .returned (.bool true) ∧ Fr (fun k => k = g) w' w'') := fun w' f => by
              have hlen := HNN.out
              have h1 := HL2.out _ ((HL3.out.trans hf4 (fun _ _ h => h)).trans f (fun _ _ h => h))
              have := backB_any x y g (.slice ao1 nl cap1) ll w' (by omega) h1 (HSN.out _ (HF1.out.trans (HFg.out _ (f.mono (fun _ _ h => h.elim))) (fun _ _ h => h)))
              rwa [← hlen] at this
            have HRR : Hid (∀ w', Fr (fun k => k = g) w4 w' → AppRR w' w3.heap.size rv K L vs) := fun w' f => ha4.kept f (fun i e hi => absurd hi (by have := HGB.out; omega))
            have HEQ : Hid (∀ w', Fr (fun k => k = g) w4 w' → Calls Try.prog 12 #[rv, wv] w' fun e w'' => e = .returned (.bool true) ∧ Fr (fun _ => False) w' w'') := fun w' f => eqRuns_same _ _ (upRows K L) w' ((HRR.out _ f).seen (by omega) (fun y _ => by have := HLB.out y; omega)) (HW1.out _ (HFg.out _ f))
            have HSP : Hid (Sep vs K) := hsp4
            have hne : (er != er) = false := by simp
            clear ha4 hsp4 hf4 HL2 HL3 HF2 HBX
            obtain ⟨⟨c0, c1, c2⟩, ⟨e0, e1, e2⟩⟩ := HS.out w4 (Fr.refl _ _)
            go_upto_region 11 with (fail)
            go_region_held3 (fun w' => (w'.cell? ⟨w2.heap.size, 0, none⟩ = some (.int .i64 x) ∧ w'.cell? ⟨w2.heap.size, 1, none⟩ = some (.int .i64 y) ∧ w'.cell? ⟨w2.heap.size, 2, none⟩ = some (.slice (some ⟨g, 0, none⟩) nl (nl + 7))) ∧ (w'.cell? ⟨b, off + j * 3, none⟩ = some (.int .i64 x) ∧ w'.cell? ⟨b, off + j * 3 + 1, none⟩ = some (.int .i64 y) ∧ w'.cell? ⟨b, off + j * 3 + 2, none⟩ = some (.slice ao1 nl cap1))) (exact HS.out _ (by repeat (first | with_reducible exact Fr.refl _ _ | with_reducible refine Fr.drew ?_ | with_reducible refine Fr.trans ?_ hf5 (fun _ _ h => h) | with_reducible refine Fr.trans ?_ hf6 (fun _ _ h => h.elim)))) (first | (go_at_call 12; refine (HEQ.out _ (by repeat (first | with_reducible exact Fr.refl _ _ | with_reducible refine Fr.drew ?_ | with_reducible refine Fr.trans ?_ hf5 (fun _ _ h => h) | with_reducible refine Fr.trans ?_ hf6 (fun _ _ h => h.elim)))).mono ?_; rintro e w6 ⟨rfl, hf6⟩) | (go_at_call 11; refine (HBK.out _ (by repeat (first | with_reducible exact Fr.refl _ _ | with_reducible refine Fr.drew ?_))).mono ?_; rintro e w5 ⟨rfl, hf5⟩))
            have HFx : Hid (Fr (fun k => k = g) w4 w6) := ((Fr.refl _ _).drew.trans hf5 (fun _ _ h => h)).trans hf6 (fun _ _ h => h.elim)
            have HR6 : Hid (RestRR w6 w3.heap.size rv K 0 L vs) := ⟨(HRR.out _ HFx.out).own, fun y _ hy => (HRR.out _ HFx.out).at_ y hy⟩
            have HF6 : Hid (Fr (fun _ => False) w1 w6) := HFg.out _ HFx.out
            have HB3 : Hid (w1.heap.size ≤ w3.heap.size) := by have := HGB.out; have := HG2.out; have := HFr.out.size; show _ ≤ _; omega
            obtain ⟨aor, cr, rfl⟩ := own_slice HR6.out.own
            clear hf5 hf6 c0 c1 c2 e0 e1 e2 HS HBK HRR HEQ HFg HFr HFx
            go_wp2_with fail
            go_loopg [10, 11, 12] K (fun q nv _ _ wr => ∃ N : Nat, N + q = K ∧ nv = .int .i64 N ∧ RestRR wr w3.heap.size (.slice aor K cr) K N L vs ∧ Fr (fun _ => False) w1 wr)
            case atStart => exact ⟨0, by omega, rfl, HR6.out, HF6.out⟩
            case round =>
              clear HR6 HF6
              obtain ⟨N, hNq, rfl, hrest, hfr⟩ := hrel
              have HRN : Hid (RestRR wr w3.heap.size (.slice aor K cr) K N L vs) := hrest
              have HFN : Hid (Fr (fun _ => False) w1 wr) := hfr
              clear hrest hfr
              by_cases hNK : N < K
              · have dN : decide (N < K) = true := decide_eq_true hNK
                obtain ⟨gr, cr', e1, hgr, _, _⟩ := row_form HRN.out.own (by omega)
                simp only [Value.slice.injEq] at e1
                obtain ⟨rfl, -, rfl⟩ := e1
                have hrowN := HRN.out.at_ N (Nat.le_refl _) hNK
                have hlen := HRN.out.own.1
                obtain ⟨aoN, cN, eN⟩ := own_slice hrowN
                have kc : wr.cell? ⟨gr, N, none⟩ = some (.slice aoN (L N).length cN) := by
                  rw [HRN.out.own.cellAt N (by omega), List.getElem?_eq_getElem (by omega)]
                  rw [List.getElem?_eq_getElem (by omega)] at eN
                  exact congrArg some eN
                rw [eN] at hrowN
                have HRW : Hid (wr.ownsRow w3.heap.size 35 2 (.slice aoN (L N).length cN) (L N).length (runCells (L N))) := hrowN
                have HSN2 : Hid (∀ y, N < y → y < K → ∀ i, (vs[y]?.getD (.slice none 0 0)).ownBlock = some i → Value.ownBlock (.slice aoN (L N).length cN) ≠ some i) := fun y hy hyK i hi hN => by
                  rw [← eN] at hN
                  exact HSP.out N y hy hyK i hN hi
                have hLN := HLB.out N
                clear hrowN hlen eN hgr
                generalize (L N).length = nN at *
                generalize runCells (L N) = cN0 at *
                go_wp2_with (first | (at_builtin; refine wpList_append_row _ rfl _ _ 33 rfl 35 i0 (.agg #[.int .i64 0, .int .i64 0]) 2 16 Try.underlying33 hi hz0 hz1 hz2 rfl (by decide) _ _ _ rfl ((ownsRow_base HRW.out (fun _ _ => Nat.zero_le _)).alloc _) ⟨wr.heap.size, 0, none⟩ 1 1 _ rfl rfl (cell_two_new _ _ _ _) ?_ ?_ ?_ (by decide) ?_))
                · first | exact ⟨rfl, rfl⟩ | (intro u hu; simp at hu; rcases hu with rfl | rfl <;> rfl)
                · unfold maxLen; omega
                · omega
                · intro g' cap' w7 hown7 hgrow7 hloc7 hcap7 hcm7
                  have HA7 : Hid (Fr (fun _ => False) wr (wr.alloc (.cells #[.int .i64 9, .int .i64 9] 35))) := (Fr.refl _ _).alloc _
                  have HF7 : Hid (Fr (fun k => Value.ownBlock (.slice aoN nN cN) = some k) wr w7) := (HA7.out.mono (fun _ _ h => h.elim)).grown hgrow7 (fun k hk _ => hk)
                  have HR7 : Hid (RestRR w7 w3.heap.size (.slice (some ⟨gr, 0, none⟩) K cr) K (N + 1) L vs) := HRN.out.next.kept HF7.out (fun i hi hS => by
                    have := own_ne2 HRW.out HRN.out.own (by decide)
                    rcases this with h | h
                    · rw [hS] at h; cases h
                    · exact h (hS.trans hi.symm)) (fun y hy hyK i hi hS => HSN2.out y (by omega) hyK i hi hS)
                  have HB7 : Hid (w3.heap.size ≤ g') := by
                    show _ ≤ _
                    rcases hloc7 with h | h
                    · exact (HRW.out.lt g' h).1
                    · have h1 := (HRN.out.own.lt gr rfl)
                      (try simp at h); omega
                  have HNO : Hid ((∀ i, Value.ownBlock (.slice (some ⟨gr, 0, none⟩) K cr) = some i → i ≠ g') ∧ ∀ y, N + 1 ≤ y → y < K → ∀ i, (vs[y]?.getD (.slice none 0 0)).ownBlock = some i → i ≠ g') := by
                    refine ⟨fun i hi e => ?_, fun y hy hyK i hi e => ?_⟩
                    · subst e
                      rcases hloc7 with h | h
                      · have := own_ne2 HRW.out HRN.out.own (by decide)
                        rcases this with h' | h'
                        · rw [h] at h'; cases h'
                        · exact h' (h.trans hi.symm)
                      · have h1 := (HRN.out.own.lt _ hi).2
                        (try simp at h); omega
                    · subst e
                      rcases hloc7 with h | h
                      · exact HSN2.out y (by omega) hyK _ hi h
                      · have h1 := ((HRN.out.at_ y (by omega) hyK).lt _ hi).2
                        (try simp at h); omega
                  have HO7 : Hid (w7.ownsRow 0 35 2 (.slice (some ⟨g', 0, none⟩) (nN + 1) cap') (nN + 1) (cN0 ++ [.int .i64 9, .int .i64 9])) := hown7
                  have HF8 : Hid (Fr (fun _ => False) w1 w7) := HFN.out.trans HF7.out (fun i hi hS => by have := (HRW.out.lt i hS).1; have := HB3.out; omega)
                  clear hown7 hgrow7 hloc7 hcap7 hcm7 HF7 HA7 kc
                  go_wp2_with fail
                  go_loopg [12] (nN + 1) (fun q mv wr => ∃ (M : Nat) (xs : List Value), M + q = nN + 1 ∧ mv = .int .i64 M ∧ wr.ownsRow 0 35 2 (.slice (some ⟨g', 0, none⟩) (nN + 1) cap') (nN + 1) xs ∧ RestRR wr w3.heap.size (.slice (some ⟨gr, 0, none⟩) K cr) K (N + 1) L vs ∧ Fr (fun _ => False) w1 wr)
                  case atStart => exact ⟨0, _, by omega, rfl, HO7.out, HR7.out, HF8.out⟩
                  case round =>
                    clear HO7 HR7 HF8
                    obtain ⟨M, xs, hMq, rfl, hown, hrest, hfr⟩ := hrel
                    have HOM : Hid (wr.ownsRow 0 35 2 (.slice (some ⟨g', 0, none⟩) (nN + 1) cap') (nN + 1) xs) := hown
                    have HRM : Hid (RestRR wr w3.heap.size (.slice (some ⟨gr, 0, none⟩) K cr) K (N + 1) L vs) := hrest
                    have HFM : Hid (Fr (fun _ => False) w1 wr) := hfr
                    clear hown hrest hfr
                    by_cases hMn : M < nN + 1
                    · have dM : decide (M < nN + 1) = true := decide_eq_true hMn
                      have hxl := HOM.out.1
                      obtain ⟨u0, q0⟩ : ∃ u, wr.cell? ⟨g', M * 2, none⟩ = some u := ⟨_, (HOM.out.cellAt _ (by omega)).trans (List.getElem?_eq_getElem (by omega))⟩
                      obtain ⟨u1, q1⟩ : ∃ u, wr.cell? ⟨g', M * 2 + 1, none⟩ = some u := ⟨_, (HOM.out.cellAt _ (by omega)).trans (List.getElem?_eq_getElem (by omega))⟩
                      have z0 := HOM.out.frozenAt (M * 2)
                      have z1 := HOM.out.frozenAt (M * 2 + 1)
                      have hst1 := HOM.out.stored (M * 2) (.int .i64 (-1))
                      have hst2 := hst1.1.stored (M * 2 + 1) (.int .i64 (-1))
                      have HO8 : Hid (((wr.setCell ⟨g', M * 2, none⟩ (.int .i64 (-1))).setCell ⟨g', M * 2 + 1, none⟩ (.int .i64 (-1))).ownsRow 0 35 2 (.slice (some ⟨g', 0, none⟩) (nN + 1) cap') (nN + 1) ((xs.set (M * 2) (.int .i64 (-1))).set (M * 2 + 1) (.int .i64 (-1)))) := hst2.1
                      have HFw : Hid (Fr (fun k => k = g') wr ((wr.setCell ⟨g', M * 2, none⟩ (.int .i64 (-1))).setCell ⟨g', M * 2 + 1, none⟩ (.int .i64 (-1)))) := ((Fr.refl (fun k => k = g') wr).setCell (p := ⟨g', M * 2, none⟩) (fun _ => rfl) _).setCell (p := ⟨g', M * 2 + 1, none⟩) (fun _ => rfl) _
                      clear hst1 hst2 hxl
                      go_wp2_with fail
                      go_roundg (nN + 1 - (M + 1))
                      case measure => omega
                      case rel => exact ⟨M + 1, _, by omega, congrArg (Value.int .i64) (by omega), HO8.out, HRM.out.kept HFw.out (fun i hi => HNO.out.1 i hi) (fun y a b i hi => HNO.out.2 y a b i hi), HFM.out.trans HFw.out (fun i hi e => by have := HB7.out; have := HB3.out; omega)⟩
                    · have dM : decide (M < nN + 1) = false := decide_eq_false hMn
                      go_wp2_with fail
                      go_roundg (K - (N + 1))
                      case measure => omega
                      case rel => exact ⟨N + 1, by omega, congrArg (Value.int .i64) (by omega), HRM.out, HFM.out⟩
              · have dN : decide (N < K) = false := decide_eq_false hNK
                go_wp2_with fail
                go_roundg (2 - (k + 1))
                case measure => omega
                case rel => exact ⟨k + 1, by omega, congrArg (Value.int .i64) (by omega), HFN.out⟩
          · have dk : decide (k < 2) = false := decide_eq_false hk2
            go_wp2_with fail
            go_roundg (6 - (j + 1))
            case measure => omega
            case rel => exact ⟨j + 1, by omega, congrArg (Value.int .i64) (by omega), HF1.out.trans HFr.out (fun _ _ h => h)⟩
    · by_cases hj1 : j < n
      · have d1 : decide (j < n) = true := decide_eq_true hj1
        have d2 : decide ((j : Int) < 6) = false := decide_eq_false (by omega)
        go_wp2_with fail
        refine (wakes_any _).mono ?_
        rintro e wz ⟨rfl, hfz⟩
        have HFz : Hid (Fr (fun _ => False) w wz) := HFr.out.trans hfz (fun _ _ h => h)
        clear hfz
        go_wp2_with fail
        go_ret
        exact ⟨rfl, HFz.out⟩
      · have d1 : decide (j < n) = false := decide_eq_false hj1
        go_wp2_with fail
        refine (wakes_any _).mono ?_
        rintro e wz ⟨rfl, hfz⟩
        have HFz : Hid (Fr (fun _ => False) w wz) := HFr.out.trans hfz (fun _ _ h => h)
        clear hfz
        go_wp2_with fail
        go_ret
        exact ⟨rfl, HFz.out⟩

end Go.Proofs.Ythliacfkmpijmaa
