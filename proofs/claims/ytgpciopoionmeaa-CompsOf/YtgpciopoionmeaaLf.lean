/- The law 'CompsOf'. -/
import Derived.Test.YtgpciopoionmeaaFd
import Derived.Test.YtgpciopoionmeaaOb
import Derived.Test.YtgpciopoionmeaaEp
import Derived.Test.YtgpciopoionmeaaOp
import Derived.Test.YtgpciopoionmeaaWk
import Derived.Test.YtgpciopoionmeaaFr2
namespace Go.Proofs.Ytgpciopoionmeaa
open Go.RowKit

theorem Same.get : ∀ {l m : List Pc}, Same l m → l.length = m.length ∧ ∀ (i : Nat) (h : i < l.length) (h' : i < m.length), same l[i] m[i]
  | _, _, .nil => ⟨rfl, fun i h => absurd h (Nat.not_lt_zero _)⟩
  | _, _, .cons a b => by
    obtain ⟨h1, h2⟩ := Same.get b
    refine ⟨by simp [h1], fun i h h' => ?_⟩
    cases i with
    | zero => exact a
    | succ i => exact h2 i (by simpa using h) (by simpa using h')
theorem same_rps {B : Nat × Nat → Prop} {fs gs : List (Nat × Nat)} {L M : List PV} (hf : Firsts B fs) (hg : Firsts B gs) (h : Pcs B fs (L.map (·.1))) (k : Pcs B gs (M.map (·.1))) : (L.map rpOf).length = (M.map rpOf).length ∧ ∀ (i : Nat) (h : i < (L.map rpOf).length) (h' : i < (M.map rpOf).length), alikeR (L.map rpOf)[i] (M.map rpOf)[i] := by
  have e := hf.uniq hg
  subst e
  obtain ⟨h1, h2⟩ := (h.uniq k).get
  refine ⟨by simpa using h1, fun i hi hi' => ?_⟩
  have h3 := h2 i (by simpa using hi) (by simpa using hi')
  simp only [List.getElem_map] at h3 ⊢
  obtain ⟨a, b, c, d, e⟩ := h3
  refine ⟨by simp [rpOf, a], by simp [rpOf, b], by simp [rpOf, c], by simp [rpOf, d], ?_⟩
  show render _ _ _ = render _ _ _
  rw [← c, ← d]
  exact render_congr e
/-- What Of answers to anything, and the document's own. -/
theorem cofs_all (x y : Int) (l : List Nat) (hx : -9223372036854775808 ≤ x ∧ x ≤ 9223372036854775807) (hy : -9223372036854775808 ≤ y ∧ y ≤ 9223372036854775807) (hlt : ∀ j : Nat, l[j]?.getD 0 < 18446744073709551616) (hl1 : l.length ≤ 1000) :
    ∃ (B : Nat × Nat → Prop) (er : Int), (∀ (L : List PV) (fs : List (Nat × Nat)), Firsts B fs → Pcs B fs (L.map (·.1)) → L.length ≤ 1048576 ∧ (∀ q ∈ L, 1 ≤ q.1.W ∧ 1 ≤ q.1.H ∧ q.1.W * q.1.H ≤ 1048576) ∧ ∀ (w : World) (base : Nat) (v : Value), OwnPs w base v L → SeenPs w v (L.map rpOf)) ∧
      (∀ (w : World) (v : Value), Seen w v l → CapOK v → Calls Try.prog 11 #[.agg #[.int .i64 x, .int .i64 y, v]] w fun e w' => ∃ rv L fs, e = .returned (.tuple #[rv, .int .i64 er]) ∧ OwnPs w' w.heap.size rv L ∧ Firsts B fs ∧ Pcs B fs (L.map (·.1)) ∧ Fr (fun _ => False) w w') ∧
      (∀ (w : World) (v : Value), Seen w v l → CapOK v → Calls Try.prog 9 #[.agg #[.int .i64 x, .int .i64 y, v]] w fun e w' => ∃ rv L fs, e = .returned (.tuple #[rv, .int .i64 er]) ∧ OwnPs w' w.heap.size rv L ∧ Firsts B fs ∧ Pcs B fs (L.map (·.1)) ∧ Fr (fun _ => False) w w') := by
  cases hval : validB x y l with
  | false =>
    have hf0 : Firsts (fun _ : Nat × Nat => False) [] := ⟨List.Pairwise.nil, fun p => ⟨fun h => by simp at h, fun h => h.1.elim⟩⟩
    refine ⟨fun _ => False, 90, fun L fs hf hp => ?_, fun w v hv _ => ?_, fun w v hv _ => ?_⟩
    · have e := hf.uniq hf0
      subst e
      have h1 := hp.length
      rw [List.length_map] at h1
      obtain rfl := List.eq_nil_of_length_eq_zero h1
      refine ⟨by simp, fun q hq => by simp at hq, fun w base v ho => ?_⟩
      obtain ⟨ao, c, rfl⟩ := own_slice ho.own
      exact ⟨ao, c, rfl, by simp, fun r hr => by simp at hr, fun hn => absurd rfl hn⟩
    · exact (cof_bad x y v l w hx hy hv hlt hval).mono (fun e w' h => ⟨.slice none 0 0, [], [], h.1, ⟨World.ownsRow_nil _ _ _ _, by simp, by simp⟩, hf0, .nil, h.2⟩)
    · exact (rof_bad x y v l w hx hy hv hlt hval).mono (fun e w' h => ⟨.slice none 0 0, [], [], h.1, ⟨World.ownsRow_nil _ _ _ _, by simp, by simp⟩, hf0, .nil, h.2⟩)
  | true =>
    have hv' := hval
    unfold validB at hv'
    simp only [Bool.and_eq_true, decide_eq_true_eq] at hv'
    obtain ⟨⟨hs, hl⟩, hr⟩ := hv'
    unfold sizeOK at hs
    obtain ⟨s1, s2, s3⟩ := of_decide_eq_true hs
    obtain ⟨W, rfl⟩ : ∃ W : Nat, x = W := ⟨x.toNat, by omega⟩
    obtain ⟨H, rfl⟩ : ∃ H : Nat, y = H := ⟨y.toNat, by omega⟩
    have e := valid_render W H l (by omega) hl hr hlt
    have s4 : W * H ≤ 1048576 := by rw [← Int.natCast_mul] at s3; omega
    have hl2 : H * stride W ≤ 1000 := by
      have := congrArg List.length e
      rw [length_render] at this
      omega
    generalize pixOf W l = P at e
    refine ⟨Bk W H P, 0, fun L fs hf hp => ⟨?_, fun q hq => ?_, fun w base v ho => ho.seen hp s4 (by omega) (by omega)⟩, fun w v hv hc => ?_, fun w v hv hc => ?_⟩
    · have h1 := hp.length
      rw [List.length_map] at h1
      rw [h1]
      exact Nat.le_trans (ras_len W H fs hf.sorted (fun p hp => by have := ((hf.mem p).1 hp).1; exact ⟨this.1, this.2.1⟩)) s4
    · have h1 := pcs_in hp (List.mem_map_of_mem hq)
      exact ⟨h1.1, h1.2.1, pcs_area hp s4 (List.mem_map_of_mem hq)⟩
    · exact cof_ok W H v P w ⟨by rw [← e]; exact hv, hc, by omega, by omega, s4⟩
    · exact rof_ok W H v P w ⟨by rw [← e]; exact hv, hc, by omega, by omega, s4⟩ hl2

theorem Try.infoBml : (Try.prog.info? 25).map (fun i => (i.zero, i.size, i.bytes)) = some (some (.agg #[.int .i64 0, .int .i64 0, .slice none 0 0]), 3, 40) := by kernel_rfl
def bmC (L : List PV) : List Value := L.flatMap fun q => [.int .i64 (q.1.W : Nat), .int .i64 (q.1.H : Nat), .slice (some ⟨q.2.1, 0, none⟩) (q.1.H * stride q.1.W) q.2.2]
theorem bmC_len : ∀ L, (bmC L).length = L.length * 3
  | [] => rfl
  | q :: L => by
    have := bmC_len L
    unfold bmC at *
    rw [List.flatMap_cons, List.length_append, this]
    simp; omega
theorem bmC_snoc (L : List PV) (q : PV) : bmC (L ++ [q]) = bmC L ++ [.int .i64 (q.1.W : Nat), .int .i64 (q.1.H : Nat), .slice (some ⟨q.2.1, 0, none⟩) (q.1.H * stride q.1.W) q.2.2] := by unfold bmC; rw [List.flatMap_append]; simp
theorem bmC_bits : ∀ (L : List PV) (c : Nat) (h : c < L.length), (bmC L)[c * 3 + 2]? = some (.slice (some ⟨L[c].2.1, 0, none⟩) (L[c].1.H * stride L[c].1.W) L[c].2.2)
  | [], c, h => absurd h (Nat.not_lt_zero _)
  | q :: L, 0, _ => rfl
  | q :: L, c + 1, h => by
    have := bmC_bits L c (by simpa using h)
    unfold bmC at *
    rw [List.flatMap_cons, show (c + 1) * 3 + 2 = c * 3 + 2 + 3 by omega]
    exact this
theorem cell_three_new1 (w : World) (a b c : Value) (t : TypeId) (j : Nat) (u : Value) (h : [a, b, c][j]? = some u) : (w.alloc (.cells #[a, b, c] t)).cell? ((⟨w.heap.size, 0, none⟩ : Addr).add j) = some u :=
  (World.ownsRow_lit (base := 0) (e := t) (size := 3) w #[a, b, c] 1 (Nat.zero_le _) (by decide) rfl).cells rfl j u h
theorem OwnPs.grown {w w' : World} {base : Nat} {v v' : Value} {L : List PV} {b' n' : Nat} {xs : List Value} (h : OwnPs w base v L) (ho : w.ownsRow b' 25 3 v' n' xs) (hg : w.grownBy w' v'.ownBlock) : OwnPs w' base v L :=
  ⟨World.ownsRow.kept h.own hg (own_ne2 h.own ho (by decide)), fun q hq => ⟨(h.at_ q hq).1.grown hg (fun e => own_ne ho (h.at_ q hq).1 (by decide) e), (h.at_ q hq).2⟩, h.sep⟩
/-- The row of the bitmaps that were told, for OverBitmaps. -/
theorem OwnPs.over {w : World} {base : Nat} {v rv : Value} {L : List PV} (h : OwnPs w base v L) (ho : w.ownsRow 0 25 3 rv L.length (bmC L)) :
    OvI w L.length rv (bmC L) (fun c => match L[c]? with | some q => .slice (some ⟨q.2.1, 0, none⟩) (q.1.H * stride q.1.W) q.2.2 | none => .slice none 0 0) (fun c => match L[c]? with | some q => q.1.H * stride q.1.W | none => 0) 0 0 := by
  refine ⟨ho, fun c hc => ?_⟩
  simp only [List.getElem?_eq_getElem hc]
  exact ⟨_, ownsRow_base (h.at_ _ (List.getElem_mem hc)).1 (fun _ _ => Nat.zero_le _), mkd_zero⟩

set_option maxRecDepth 100000 in
set_option maxHeartbeats 8000000 in
theorem compsOf_any (ao : Option Addr) (n cap : Nat) (A : Nat → Bp) (w : World) (h : BpsAt w ao n A) :
    Calls Try.prog 3 #[.slice ao n cap] w fun e w' => e = .returned (.bool true) ∧ Fr (fun _ => False) w w' := by
  obtain ⟨i0, hi, hz0, hz1, hz2⟩ := info_parts Try.infoBml
  have hl := h.len
  have HC : Hid (∀ j, j < n → ∃ b off ao1 cap1, ao = some ⟨b, off, none⟩ ∧ BpOK w (A j) ∧ (A j).v = .slice ao1 (A j).l.length cap1 ∧ ∀ w', Fr (fun _ => False) w w' → w'.cell? ⟨b, off + j * 3, none⟩ = some (.int .i64 (A j).x) ∧ w'.cell? ⟨b, off + j * 3 + 1, none⟩ = some (.int .i64 (A j).y) ∧ w'.cell? ⟨b, off + j * 3 + 2, none⟩ = some (A j).v) := fun j hj => by
    have hok := h.ok j hj
    obtain ⟨ao1, cap1, e1, _, _⟩ := hok.hv
    obtain ⟨b, off, e2, hc⟩ := h.cells (by omega)
    obtain ⟨k0, k1, k2⟩ := hc j hj
    exact ⟨b, off, ao1, cap1, e2, hok, e1, fun w' f => ⟨by rw [f.cellEq (seen_lt k0) (fun h => h)]; exact k0, by rw [f.cellEq (seen_lt k1) (fun h => h)]; exact k1, by rw [f.cellEq (seen_lt k2) (fun h => h)]; exact k2⟩⟩
  clear h
  go_enter Try.func3, Try.ntmps3
  go_wp2_with fail
  go_loopg [3, 4, 5, 6, 7, 8, 9, 10, 11] 5 (fun q i _ _ _ _ _ _ _ _ wr => ∃ j : Nat, j + q = 5 ∧ i = .int .i64 j ∧ Fr (fun _ => False) w wr)
  case atStart => exact ⟨0, by omega, rfl, Fr.refl _ _⟩
  case round =>
    obtain ⟨j, hjq, rfl, hfr⟩ := hrel
    have HFr : Hid (Fr (fun _ => False) w wr) := hfr
    clear hfr
    by_cases hjn : j < n ∧ j < 5
    · obtain ⟨hj1, hj2⟩ := hjn
      have d1 : decide (j < n) = true := decide_eq_true hj1
      have d2 : decide (j < 5) = true := decide_eq_true hj2
      obtain ⟨b, off, ao1, cap1, rfl, hok, hev, hk⟩ := HC.out j hj1
      rw [hev] at hk
      have HCL : Hid (∀ w', Fr (fun _ => False) w w' → w'.cell? ⟨b, off + j * 3, none⟩ = some (.int .i64 (A j).x) ∧ w'.cell? ⟨b, off + j * 3 + 1, none⟩ = some (.int .i64 (A j).y) ∧ w'.cell? ⟨b, off + j * 3 + 2, none⟩ = some (.slice ao1 (A j).l.length cap1)) := hk
      have HSN : Hid (∀ w', Fr (fun _ => False) w w' → Seen w' (.slice ao1 (A j).l.length cap1) (A j).l) := fun w' f => by have := hok.hv.kept f; rwa [hev] at this
      have HCP : Hid (CapOK (.slice ao1 (A j).l.length cap1)) := by have := hok.hc; rwa [hev] at this
      have HNL : Hid (NilOK (.slice ao1 (A j).l.length cap1)) := by have := hok.hn; rwa [hev] at this
      have HALL : Hid ((A j).l.length ≤ 1000 → ∃ (B : Nat × Nat → Prop) (er : Int), (∀ (L : List PV) (fs : List (Nat × Nat)), Firsts B fs → Pcs B fs (L.map (·.1)) → L.length ≤ 1048576 ∧ (∀ q ∈ L, 1 ≤ q.1.W ∧ 1 ≤ q.1.H ∧ q.1.W * q.1.H ≤ 1048576) ∧ ∀ (w : World) (base : Nat) (v : Value), OwnPs w base v L → SeenPs w v (L.map rpOf)) ∧
          (∀ (w : World) (v : Value), Seen w v (A j).l → CapOK v → Calls Try.prog 11 #[.agg #[.int .i64 (A j).x, .int .i64 (A j).y, v]] w fun e w' => ∃ rv L fs, e = .returned (.tuple #[rv, .int .i64 er]) ∧ OwnPs w' w.heap.size rv L ∧ Firsts B fs ∧ Pcs B fs (L.map (·.1)) ∧ Fr (fun _ => False) w w') ∧
          (∀ (w : World) (v : Value), Seen w v (A j).l → CapOK v → Calls Try.prog 9 #[.agg #[.int .i64 (A j).x, .int .i64 (A j).y, v]] w fun e w' => ∃ rv L fs, e = .returned (.tuple #[rv, .int .i64 er]) ∧ OwnPs w' w.heap.size rv L ∧ Firsts B fs ∧ Pcs B fs (L.map (·.1)) ∧ Fr (fun _ => False) w w')) := fun hl1 => cofs_all (A j).x (A j).y (A j).l hok.hx hok.hy hok.hlt hl1
      clear hk hok hev
      obtain ⟨ll, hll⟩ : ∃ ll, ll = (A j).l := ⟨_, rfl⟩
      rw [← hll] at HCL HSN HCP HNL HALL
      clear hll
      generalize (A j).x = x at *
      generalize (A j).y = y at *
      obtain ⟨nl, hnl⟩ : ∃ nl, nl = ll.length := ⟨_, rfl⟩
      have HNN : Hid (nl = ll.length) := hnl
      rw [← hnl] at HCL HSN HCP HNL
      clear hnl
      obtain ⟨c0, c1, c2⟩ := HCL.out wr HFr.out
      by_cases hbig : 312 < nl
      · have d3 : decide (312 < nl) = true := decide_eq_true hbig
        go_wp2_with fail
        go_roundg (5 - (j + 1))
        case measure => omega
        case rel => exact ⟨j + 1, by omega, congrArg (Value.int .i64) (by omega), HFr.out⟩
      · have d3 : decide (312 < nl) = false := decide_eq_false hbig
        go_wp2_with fail
        obtain ⟨B, er, HSMb, HOF, HRF⟩ := HALL.out (by have := HNN.out; omega)
        have HSM : Hid (∀ (L : List PV) (fs : List (Nat × Nat)), Firsts B fs → Pcs B fs (L.map (·.1)) → L.length ≤ 1048576 ∧ (∀ q ∈ L, 1 ≤ q.1.W ∧ 1 ≤ q.1.H ∧ q.1.W * q.1.H ≤ 1048576) ∧ ∀ (w : World) (base : Nat) (v : Value), OwnPs w base v L → SeenPs w v (L.map rpOf)) := HSMb
        have HPO : Hid (∀ (w : World) (v : Value), Seen w v ll → CapOK v → Calls Try.prog 11 #[.agg #[.int .i64 x, .int .i64 y, v]] w fun e w' => ∃ rv L fs, e = .returned (.tuple #[rv, .int .i64 er]) ∧ OwnPs w' w.heap.size rv L ∧ Firsts B fs ∧ Pcs B fs (L.map (·.1)) ∧ Fr (fun _ => False) w w') := HOF
        have HPR : Hid (∀ (w : World) (v : Value), Seen w v ll → CapOK v → Calls Try.prog 9 #[.agg #[.int .i64 x, .int .i64 y, v]] w fun e w' => ∃ rv L fs, e = .returned (.tuple #[rv, .int .i64 er]) ∧ OwnPs w' w.heap.size rv L ∧ Firsts B fs ∧ Pcs B fs (L.map (·.1)) ∧ Fr (fun _ => False) w w') := HRF
        clear HSMb HOF HRF HALL
        refine (HPR.out wr _ (HSN.out _ HFr.out) HCP.out).mono ?_
        rintro e w1 ⟨wv, M, gs, rfl, ha1, hfs1, hps1, hf1⟩
        have HF1 : Hid (Fr (fun _ => False) w w1) := HFr.out.trans hf1 (fun _ _ h => h)
        have HW1 : Hid (∀ w', Fr (fun _ => False) w1 w' → SeenPs w' wv (M.map rpOf)) := fun w' f => (HSM.out M gs hfs1 hps1).2.2 w' _ wv (ha1.kept f (fun _ _ h => h))
        have HGS : Hid (Firsts B gs ∧ Pcs B gs (M.map (·.1))) := ⟨hfs1, hps1⟩
        clear ha1 hf1 hfs1 hps1 c0 c1 c2
        go_wp2_with fail
        go_loopg [6, 7, 8, 9, 10, 11] 2 (fun q kv _ _ _ _ _ wr => ∃ k : Nat, k + q = 2 ∧ kv = .int .i64 k ∧ Fr (fun _ => False) w1 wr)
        case atStart => exact ⟨0, by omega, rfl, Fr.refl _ _⟩
        case round =>
          clear HFr
          obtain ⟨k, hkq, rfl, hfr⟩ := hrel
          have HFr : Hid (Fr (fun _ => False) w1 wr) := hfr
          clear hfr
          by_cases hk2 : k < 2
          · have dk : decide (k < 2) = true := decide_eq_true hk2
            obtain ⟨c0, c1, c2⟩ := HCL.out wr (HF1.out.trans HFr.out (fun _ _ h => h))
            go_wp2_with fail
            have HLD : Hid (Calls Try.prog 10 #[.agg #[.int .i64 x, .int .i64 y, .slice ao1 nl cap1]] wr fun e w' => ∃ g, e = .returned (.agg #[.int .i64 x, .int .i64 y, .slice (some ⟨g, 0, none⟩) nl (nl + 7)]) ∧ Lent w' g ll ∧ wr.heap.size ≤ g ∧ Fr (fun _ => False) wr w') := by
              have := lendB_any x y _ ll wr (HSN.out _ (HF1.out.trans HFr.out (fun _ _ h => h))) HNL.out (by have := HNN.out; omega)
              rwa [← HNN.out] at this
            refine HLD.out.mono ?_
            rintro e w2 ⟨g, rfl, hl2, hg2, hf2⟩
            clear HLD
            have HL2 : Hid (∀ w', Fr (fun _ => False) w2 w' → Lent w' g ll) := fun w' f => hl2.kept f (fun h => h)
            have HG2 : Hid (wr.heap.size ≤ g ∧ g < w2.heap.size) := ⟨hg2, hl2.lt⟩
            have HF2 : Hid (Fr (fun _ => False) w1 (w2.alloc (.cells #[.int .i64 x, .int .i64 y, .slice (some ⟨g, 0, none⟩) nl (nl + 7)] 25))) := (HFr.out.trans hf2 (fun _ _ h => h)).alloc _
            have HBX : Hid (∀ w', Fr (fun k => k = g) (w2.alloc (.cells #[.int .i64 x, .int .i64 y, .slice (some ⟨g, 0, none⟩) nl (nl + 7)] 25)) w' → w'.cell? ⟨w2.heap.size, 0, none⟩ = some (.int .i64 x) ∧ w'.cell? ⟨w2.heap.size, 1, none⟩ = some (.int .i64 y) ∧ w'.cell? ⟨w2.heap.size, 2, none⟩ = some (.slice (some ⟨g, 0, none⟩) nl (nl + 7))) := fun w' hf => by
              obtain ⟨q0, q1, q2, _⟩ := cell_of_three ((hf.block w2.heap.size (by simp) (by have := HG2.out; omega)).trans (heap_alloc_new w2 _))
              exact ⟨q0, q1, q2⟩
            have HL3 : Hid (Fr (fun _ => False) w2 (w2.alloc (.cells #[.int .i64 x, .int .i64 y, .slice (some ⟨g, 0, none⟩) nl (nl + 7)] 25))) := (Fr.refl _ _).alloc _
            clear hl2 hg2 hf2 c0 c1 c2
            go_wp2_with fail
            generalize w2.alloc (.cells #[.int .i64 x, .int .i64 y, .slice (some ⟨g, 0, none⟩) nl (nl + 7)] 25) = w3 at *
            have HPO3 := HPO.out w3 (.slice (some ⟨g, 0, none⟩) nl (nl + 7)) (by have := (HL2.out _ HL3.out).seen (by have := HNN.out; omega); rwa [← HNN.out] at this) (fun ao n c e => by cases e; exact ⟨by omega, by unfold maxLen; omega⟩)
            refine HPO3.mono ?_
            rintro e w4 ⟨rv, L, fs, rfl, ha4, hfs4, hps4, hf4⟩
            clear HPO3
            have HFg : Hid (∀ w', Fr (fun k => k = g) w4 w' → Fr (fun _ => False) w1 w') := fun w' f => (HF2.out.trans hf4 (fun _ _ h => h)).trans f (fun i hi e => by have := HG2.out; have := HFr.out.size; omega)
            have HS : Hid (∀ w', Fr (fun k => k = g) w4 w' → (w'.cell? ⟨w2.heap.size, 0, none⟩ = some (.int .i64 x) ∧ w'.cell? ⟨w2.heap.size, 1, none⟩ = some (.int .i64 y) ∧ w'.cell? ⟨w2.heap.size, 2, none⟩ = some (.slice (some ⟨g, 0, none⟩) nl (nl + 7))) ∧ (w'.cell? ⟨b, off + j * 3, none⟩ = some (.int .i64 x) ∧ w'.cell? ⟨b, off + j * 3 + 1, none⟩ = some (.int .i64 y) ∧ w'.cell? ⟨b, off + j * 3 + 2, none⟩ = some (.slice ao1 nl cap1))) := fun w' f => ⟨HBX.out _ ((hf4.mono (fun _ _ h => h.elim)).trans f (fun _ _ h => h)), HCL.out _ (HF1.out.trans (HFg.out _ f) (fun _ _ h => h))⟩
            have hf4s := hf4
            have HGB : Hid (g < w3.heap.size) := by have := HG2.out; have := HL3.out.size; show _ < _; omega
            have HBK : Hid (∀ w', Fr (fun _ => False) w4 w' → Calls Try.prog 12 #[.agg #[.int .i64 x, .int .i64 y, .slice (some ⟨g, 0, none⟩) nl (nl + 7)], .agg #[.int .i64 x, .int .i64 y, .slice ao1 nl cap1]] w' fun e w'' => e = .returned (.bool true) ∧ Fr (fun k => k = g) w' w'') := fun w' f => by
              have hlen := HNN.out
              have h1 := HL2.out _ ((HL3.out.trans hf4 (fun _ _ h => h)).trans f (fun _ _ h => h))
              have := backB_any x y g (.slice ao1 nl cap1) ll w' (by omega) h1 (HSN.out _ (HF1.out.trans (HFg.out _ (f.mono (fun _ _ h => h.elim))) (fun _ _ h => h)))
              rwa [← hlen] at this
            obtain ⟨hK, hsmall, hseen⟩ := HSM.out L fs hfs4 hps4
            have HRR : Hid (∀ w', Fr (fun k => k = g) w4 w' → OwnPs w' w3.heap.size rv L) := fun w' f => ha4.kept f (fun i hi e => by have := HGB.out; omega)
            have HEQ : Hid (∀ w', Fr (fun k => k = g) w4 w' → Calls Try.prog 13 #[rv, wv] w' fun e w'' => e = .returned (.bool true) ∧ Fr (fun _ => False) w' w'') := fun w' f => by
              obtain ⟨s1, s2⟩ := same_rps hfs4 HGS.out.1 hps4 HGS.out.2
              exact eqPieces_same _ _ (L.map rpOf) (M.map rpOf) w' (hseen _ _ _ (HRR.out _ f)) (HW1.out _ (HFg.out _ f)) s1 s2
            have HSMQ : Hid (∀ q ∈ L, 1 ≤ q.1.W ∧ 1 ≤ q.1.H ∧ q.1.W * q.1.H ≤ 1048576) := hsmall
            have hne : (er != er) = false := by simp
            clear ha4 hfs4 hps4 hsmall hseen hf4 HL2 HL3 HF2 HBX
            obtain ⟨⟨c0, c1, c2⟩, ⟨e0, e1, e2⟩⟩ := HS.out w4 (Fr.refl _ _)
            go_upto_region 11 with (fail)
            go_region_held3 (fun w' => (w'.cell? ⟨w2.heap.size, 0, none⟩ = some (.int .i64 x) ∧ w'.cell? ⟨w2.heap.size, 1, none⟩ = some (.int .i64 y) ∧ w'.cell? ⟨w2.heap.size, 2, none⟩ = some (.slice (some ⟨g, 0, none⟩) nl (nl + 7))) ∧ (w'.cell? ⟨b, off + j * 3, none⟩ = some (.int .i64 x) ∧ w'.cell? ⟨b, off + j * 3 + 1, none⟩ = some (.int .i64 y) ∧ w'.cell? ⟨b, off + j * 3 + 2, none⟩ = some (.slice ao1 nl cap1))) (exact HS.out _ (by repeat (first | with_reducible exact Fr.refl _ _ | with_reducible refine Fr.drew ?_ | with_reducible refine Fr.trans ?_ hf5 (fun _ _ h => h) | with_reducible refine Fr.trans ?_ hf6 (fun _ _ h => h.elim)))) (first | (go_at_call 13; refine (HEQ.out _ (by repeat (first | with_reducible exact Fr.refl _ _ | with_reducible refine Fr.drew ?_ | with_reducible refine Fr.trans ?_ hf5 (fun _ _ h => h) | with_reducible refine Fr.trans ?_ hf6 (fun _ _ h => h.elim)))).mono ?_; rintro e w6 ⟨rfl, hf6⟩) | (go_at_call 12; refine (HBK.out _ (by repeat (first | with_reducible exact Fr.refl _ _ | with_reducible refine Fr.drew ?_))).mono ?_; rintro e w5 ⟨rfl, hf5⟩))
            have HFx : Hid (Fr (fun k => k = g) w4 w6) := ((Fr.refl _ _).drew.trans hf5 (fun _ _ h => h)).trans hf6 (fun _ _ h => h.elim)
            have HR6 : Hid (OwnPs w6 w3.heap.size rv L) := HRR.out _ HFx.out
            have HF6 : Hid (Fr (fun _ => False) w1 w6) := HFg.out _ HFx.out
            have HB3 : Hid (w1.heap.size ≤ w3.heap.size) := by have := HGB.out; have := HG2.out; have := HFr.out.size; show _ ≤ _; omega
            have HS6 : Hid (w3.heap.size ≤ w6.heap.size) := by have := HGB.out; have h2 := hf4s.size; have := HFx.out.size; show _ ≤ _; omega
            obtain ⟨aor, cr, rfl⟩ := own_slice HR6.out.own
            clear hf5 hf6 hf4s c0 c1 c2 e0 e1 e2 HS HBK HRR HEQ HFg HFr HFx
            obtain ⟨K, HKL⟩ : ∃ K, Hid (K = L.length) := ⟨_, rfl⟩
            rw [← HKL.out] at hK ⊢
            go_wp2_with fail
            go_loopg [10, 11] K (fun q av nv wr => ∃ N : Nat, N + q = K ∧ nv = .int .i64 N ∧ wr.ownsRow 0 25 3 av N (bmC (L.take N)) ∧ (∀ k, av.ownBlock = some k → w3.heap.size ≤ k) ∧ OwnPs wr w3.heap.size (.slice aor L.length cr) L ∧ Fr (fun _ => False) w1 wr)
            case atStart => exact ⟨0, by omega, rfl, World.ownsRow_nil _ _ _ _, (fun k hk => by cases hk), HR6.out, HF6.out⟩
            case round =>
              clear HR6 HF6
              obtain ⟨N, hNq, rfl, hrow, hnew, hps, hfr⟩ := hrel
              have HRW : Hid (wr.ownsRow 0 25 3 u10 N (bmC (L.take N))) := hrow
              have HNW : Hid (∀ k, u10.ownBlock = some k → w3.heap.size ≤ k) := hnew
              have HPN : Hid (OwnPs wr w3.heap.size (.slice aor L.length cr) L) := hps
              have HFN : Hid (Fr (fun _ => False) w1 wr) := hfr
              clear hrow hnew hps hfr
              have hKL := HKL.out
              by_cases hNK : N < K
              · have dN : decide (N < K) = true := decide_eq_true hNK
                have hNL : N < L.length := by omega
                obtain ⟨gr, cr', e1, hgr, _, _⟩ := row_form HPN.out.own (by omega)
                simp only [Value.slice.injEq] at e1
                obtain ⟨rfl, -, rfl⟩ := e1
                obtain ⟨-, -, m2, m3, m4⟩ := cellsPs_at L N hNL
                have hcl : (cellsPs L).length = L.length * 5 := HPN.out.own.1
                have k2 := (HPN.out.own.cellAt (N * 5 + 2) (by omega)).trans m2
                have k3 := (HPN.out.own.cellAt (N * 5 + 3) (by omega)).trans m3
                have k4 := (HPN.out.own.cellAt (N * 5 + 4) (by omega)).trans m4
                have HTK : Hid (bmC (L.take (N + 1)) = bmC (L.take N) ++ [.int .i64 (L[N].1.W : Nat), .int .i64 (L[N].1.H : Nat), .slice (some ⟨L[N].2.1, 0, none⟩) (L[N].1.H * stride L[N].1.W) L[N].2.2]) := by
                  have e : L.take (N + 1) = L.take N ++ [L[N]] := by rw [List.take_add_one, List.getElem?_eq_getElem hNL]; rfl
                  show _ = _
                  rw [e, bmC_snoc]
                clear m2 m3 m4 hcl hgr
                generalize hq : L[N] = qq at *
                clear hq hNL hKL
                generalize hNB : qq.1.H * stride qq.1.W = nb at *
                go_wp2_with (first | (at_builtin; refine wpList_append_row _ rfl _ _ 22 rfl 25 i0 (.agg #[.int .i64 0, .int .i64 0, .slice none 0 0]) 3 40 Try.underlying22 hi hz0 hz1 hz2 rfl (by decide) _ _ _ rfl (HRW.out.alloc _) ⟨wr.heap.size, 0, none⟩ 1 1 _ rfl rfl (cell_three_new1 _ _ _ _ _) ?_ ?_ ?_ (by decide) ?_))
                · intro u hu; simp at hu; rcases hu with rfl | rfl | rfl <;> rfl
                · unfold maxLen; omega
                · omega
                · intro g' cap' w7 hown7 hgrow7 hloc7 hcap7 hcm7
                  have HF7 : Hid (Fr (fun _ => False) w1 w7) := (HFN.out.alloc _).grown hgrow7 (fun k hk hlt => by have := HNW.out k hk; have := HB3.out; omega)
                  have HP7 : Hid (OwnPs w7 w3.heap.size (.slice (some ⟨gr, 0, none⟩) L.length cr) L) := (HPN.out.kept ((Fr.refl (fun _ => False) wr).alloc _) (fun _ _ h => h)).grown (HRW.out.alloc _) hgrow7
                  have HN7 : Hid (∀ k, Value.ownBlock (.slice (some ⟨g', 0, none⟩) (N + 1) cap') = some k → w3.heap.size ≤ k) := fun k hk => by
                    simp [Value.ownBlock] at hk
                    subst hk
                    rcases hloc7 with h | h
                    · exact HNW.out _ h
                    · have h1 := (HPN.out.own.lt gr rfl).2
                      have h2 := (HPN.out.own.lt gr rfl).1
                      (try simp at h); omega
                  have HO7 : Hid (w7.ownsRow 0 25 3 (.slice (some ⟨g', 0, none⟩) (N + 1) cap') (N + 1) (bmC (L.take (N + 1)))) := by rw [HTK.out]; exact hown7
                  clear hown7 hgrow7 hloc7 hcap7 hcm7 k2 k3 k4
                  go_wp2_with fail
                  go_roundg (K - (N + 1))
                  case measure => omega
                  case rel => exact ⟨N + 1, by omega, congrArg (Value.int .i64) (by omega), HO7.out, HN7.out, HP7.out, HF7.out⟩
              · have dN : decide (N < K) = false := decide_eq_false hNK
                obtain rfl : N = L.length := by omega
                have HRL : Hid (wr.ownsRow 0 25 3 u10 L.length (bmC L)) := by have := HRW.out; rwa [List.take_length] at this
                have HOV : Hid (Calls Try.prog 14 #[u10] wr fun e w' => e = .returned (.bool true) ∧ Fr (fun b => w3.heap.size ≤ b) wr w') := by
                  refine (overBitmaps_any L.length u10 (bmC L) _ _ wr (HPN.out.over HRL.out) (fun c hc => ?_) (fun c hc => ?_) (by omega) (fun c c' g2 hc hc' hne e1 e2 => ?_)).mono (fun e w' h => ⟨h.1, h.2.mono (fun b _ hb => ?_)⟩)
                  · simp only [List.getElem?_eq_getElem hc]
                    exact bmC_bits L c hc
                  · simp only [List.getElem?_eq_getElem hc]
                    obtain ⟨a1, a2, a3⟩ := HSMQ.out _ (List.getElem_mem hc)
                    exact ⟨Nat.mul_pos a2 (by unfold stride; omega), (size_facts a1 a2 a3).2.2⟩
                  · simp only [List.getElem?_eq_getElem hc, List.getElem?_eq_getElem hc', Value.ownBlock, Option.some.injEq] at e1 e2
                    have hsp := List.pairwise_iff_getElem.1 HPN.out.sep
                    rcases Nat.lt_or_gt_of_ne hne with h | h
                    · exact hsp c c' hc hc' h (e1.trans e2.symm)
                    · exact hsp c' c hc' hc h (e2.trans e1.symm)
                  · obtain ⟨c, hc, e⟩ := hb
                    simp only [List.getElem?_eq_getElem hc, Value.ownBlock, Option.some.injEq] at e
                    subst e
                    exact (HPN.out.at_ _ (List.getElem_mem hc)).2
                clear hK hKL HKL
                go_wp2_with fail
                refine HOV.out.mono ?_
                rintro e w8 ⟨rfl, hf8⟩
                have HF8 : Hid (Fr (fun _ => False) w1 w8) := HFN.out.trans hf8 (fun i hi e => by have := HB3.out; omega)
                clear hf8
                go_wp2_with fail
                go_roundg (2 - (k + 1))
                case measure => omega
                case rel => exact ⟨k + 1, by omega, congrArg (Value.int .i64) (by omega), HF8.out⟩
          · have dk : decide (k < 2) = false := decide_eq_false hk2
            go_wp2_with fail
            go_roundg (5 - (j + 1))
            case measure => omega
            case rel => exact ⟨j + 1, by omega, congrArg (Value.int .i64) (by omega), HF1.out.trans HFr.out (fun _ _ h => h)⟩
    · by_cases hj1 : j < n
      · have d1 : decide (j < n) = true := decide_eq_true hj1
        have d2 : decide ((j : Int) < 5) = false := decide_eq_false (by omega)
        go_wp2_with fail
        refine (wakes_any _).mono ?_
        rintro e wz ⟨rfl, hfz⟩
        have HFz : Hid (Fr (fun _ => False) w wz) := HFr.out.trans hfz (fun _ _ h => h)
        clear hfz
        go_wp2_with fail
        go_ret
        exact ⟨rfl, HFz.out⟩
      · have d1 : decide (j < n) = false := decide_eq_false hj1
        go_wp2_with fail
        refine (wakes_any _).mono ?_
        rintro e wz ⟨rfl, hfz⟩
        have HFz : Hid (Fr (fun _ => False) w wz) := HFr.out.trans hfz (fun _ _ h => h)
        clear hfz
        go_wp2_with fail
        go_ret
        exact ⟨rfl, HFz.out⟩

end Go.Proofs.Ytgpciopoionmeaa

