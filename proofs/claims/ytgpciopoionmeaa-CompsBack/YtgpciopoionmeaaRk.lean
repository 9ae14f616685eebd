/- The reference's 'Back'. -/
import Derived.Test.YtgpciopoionmeaaCb
import Derived.Test.YtgpciopoionmeaaLo
import Derived.Test.YtgpciopoionmeaaMay
import Derived.Test.YtgpciopoionmeaaFr2
import Derived.Test.YtgpciopoionmeaaSp
namespace Go.Proofs.Ytgpciopoionmeaa
open Go.RowKit

theorem laid_orP (X Y : Int) (W H : Nat) (v : Value) (P Q : Nat → Nat → Bool) (a e : Nat) : laidO X Y W H 0 P Q a e = orP Q ⟨X, Y, W, H, v, render W H P⟩ a e := by
  unfold laidO orP
  simp only [Int.toNat_natCast]
  by_cases h : 0 ≤ (a : Int) - X ∧ (a : Int) - X < W ∧ 0 ≤ (e : Int) - Y ∧ (e : Int) - Y < H
  · rw [decide_eq_true h, decide_eq_true (by omega), pixOf_render P (by omega) (by omega)]
  · rw [decide_eq_false h, decide_eq_false (by omega)]; rfl

set_option maxRecDepth 100000 in
set_option maxHeartbeats 8000000 in
theorem rback_any (v : Value) (L : List Rp) (x y : Int) (w : World) (hv : SeenPs w v L) (hcp : ∀ r ∈ L, CapOK r.v) (hx : in64 x) (hy : in64 y) :
    Calls Try.prog 19 #[v, .int .i64 x, .int .i64 y] w fun e w' => CBackP w x y L e w' := by
  have HSN : Hid (∀ w', Fr (fun _ => False) w w' → SeenPs w' v L) := fun w' f => hv.kept f
  have HCP : Hid (∀ r ∈ L, CapOK r.v) := hcp
  have HSC : Hid (∀ w', Calls Try.prog 16 #[.int .i64 x, .int .i64 y] w' fun e w'' => e = .returned (.bool (sizeOK x y)) ∧ w'' = w') := fun w' => zSize_any x y w' hx hy
  obtain ⟨ao, cap0, rfl, hl, _, _⟩ := hv
  have HA : Hid (Fr (fun _ => False) w (w.alloc (.cells #[.int .i64 0, .int .i64 0, .slice none 0 0] 25))) := (Fr.refl _ _).alloc _
  have HBX : Hid (∀ w', Fr (fun _ => False) (w.alloc (.cells #[.int .i64 0, .int .i64 0, .slice none 0 0] 25)) w' → w'.heap[w.heap.size]? = some (.cells #[.int .i64 0, .int .i64 0, .slice none 0 0] 25 (0, 0))) := fun w' hf => (hf.block w.heap.size (by simp) (fun hh => hh)).trans (heap_alloc_new w _)
  clear hcp
  by_cases hs : sizeOK x y = false
  · have HOK : Hid (okBk L x y = false) := by show _ = _; unfold okBk; rw [hs]; rfl
    rw [hs] at HSC
    go_enter Try.func19, Try.ntmps19
    go_wp2_with fail
    generalize w.alloc (.cells #[.int .i64 0, .int .i64 0, .slice none 0 0] 25) = w0 at *
    refine (HSC.out _).mono ?_
    rintro e w1 ⟨rfl, rfl⟩
    have hbk := HBX.out _ (Fr.refl _ _)
    obtain ⟨z0, z1, z2, zf⟩ := cell_of_three hbk
    have y0 := zf 0
    have y1 := zf 1
    have y2 := zf 2
    have hb5 := set3_cells hbk (.int .i64 0) (.int .i64 0) (.slice none 0 0)
    have HF5 : Hid (Fr (fun _ => False) w ((((w1).setCell ⟨w.heap.size, 0, none⟩ (.int .i64 0)).setCell ⟨w.heap.size, 1, none⟩ (.int .i64 0)).setCell ⟨w.heap.size, 2, none⟩ (.slice none 0 0))) := Fr.set3 (HA.out.trans (Fr.refl _ _) (fun _ _ h => h)) (Nat.le_refl _) _ _ _
    clear zf hbk
    go_wp2_with fail
    generalize ((((w1).setCell ⟨w.heap.size, 0, none⟩ (.int .i64 0)).setCell ⟨w.heap.size, 1, none⟩ (.int .i64 0)).setCell ⟨w.heap.size, 2, none⟩ (.slice none 0 0)) = w5 at hb5 HF5 ⊢
    obtain ⟨m0, m1, m2, _⟩ := cell_of_three hb5
    refine bodyPost_ret (v := .tuple #[.agg #[.int .i64 0, .int .i64 0, .slice none 0 0], .int .i64 90]) (by simp [results, Try.results19, go_sem, m0, m1, m2]) rfl ?_
    exact ⟨fun h => absurd (h.symm.trans HOK.out) (by decide), fun _ => rfl, HF5.out⟩
  · rw [Bool.not_eq_false] at hs
    have HSZ : Hid (sizeOK x y = true) := hs
    rw [hs] at HSC
    unfold sizeOK at hs
    obtain ⟨s1, s2, s3⟩ := of_decide_eq_true hs
    obtain ⟨V, rfl⟩ : ∃ V : Nat, x = V := ⟨x.toNat, by omega⟩
    obtain ⟨H, rfl⟩ : ∃ H : Nat, y = H := ⟨y.toNat, by omega⟩
    have s4 : V * H ≤ 1048576 := by rw [← Int.natCast_mul] at s3; omega
    have HV : Hid (1 ≤ V ∧ 1 ≤ H ∧ V * H ≤ 1048576) := ⟨by omega, by omega, s4⟩
    obtain ⟨f1, f2, _⟩ := size_facts HV.out.1 HV.out.2.1 s4
    clear hs s1 s2 s3 s4 hx hy
    go_enter Try.func19, Try.ntmps19
    go_wp2_with fail
    generalize w.alloc (.cells #[.int .i64 0, .int .i64 0, .slice none 0 0] 25) = w0 at *
    refine (HSC.out _).mono ?_
    rintro e w1 ⟨rfl, rfl⟩
    go_wp2_with fail
    go_loopg [8] L.length (fun q i wr => ∃ k : Nat, k + q = L.length ∧ i = .int .i64 k ∧ Hid (∀ (j : Nat) (h : j < L.length), j < k → validB L[j].x L[j].y L[j].l = true) ∧ Fr (fun _ => False) w1 wr)
    case atStart => exact ⟨0, by omega, rfl, fun j _ hj => absurd hj (Nat.not_lt_zero _), Fr.refl _ _⟩
    case round =>
      obtain ⟨k, hkq, rfl, HGD, hfr⟩ := hrel
      have HFr : Hid (Fr (fun _ => False) w1 wr) := hfr
      clear hfr
      by_cases hkH : k < L.length
      · have hdk : decide (k < L.length) = true := decide_eq_true hkH
        obtain ⟨ao', cap', e', _, hoks, hcc⟩ := HSN.out wr (HA.out.trans HFr.out (fun _ _ h => h))
        simp only [Value.slice.injEq] at e'
        obtain ⟨rfl, -, rfl⟩ := e'
        obtain ⟨bL, off, rfl, hcell⟩ := hcc (fun e => by rw [e] at hkH; simp at hkH)
        obtain ⟨c0, c1, c2, c3, c4⟩ := hcell k hkH
        have HRO : Hid (RpOK wr L[k]) := hoks _ (List.getElem_mem hkH)
        have HVB : Hid (validB L[k].x L[k].y L[k].l = false → okBk L V H = false) := fun h => by
          unfold okBk
          rw [Bool.and_eq_false_iff]
          right
          rw [List.all_eq_false]
          exact ⟨L[k], List.getElem_mem hkH, by rw [h]; decide⟩
        have HVG : Hid (validB L[k].x L[k].y L[k].l = true → ∀ (j : Nat) (h : j < L.length), j < k + 1 → validB L[j].x L[j].y L[j].l = true) := fun hv j hj hjk => by
          by_cases e : j = k
          · subst e; exact hv
          · exact HGD.out j hj (by omega)
        clear hcell hcc hoks
        generalize L[k] = r at *
        obtain ⟨rX, rY, rx, ry, rv, rl'⟩ := r
        simp only at c0 c1 c2 c3 c4
        obtain ⟨aoB, cB, eB, _⟩ := HRO.out.seen
        simp only at eB
        subst eB
        have HMQ : Hid (Calls Try.prog 21 #[.agg #[.int .i64 rx, .int .i64 ry, .slice aoB rl'.length cB]] wr fun e w'' => e = .returned (.bool (validB rx ry rl')) ∧ Fr (fun _ => False) wr w'') := may_any rx ry _ rl' wr HRO.out.x HRO.out.y HRO.out.seen HRO.out.lt
        cases hval : validB rx ry rl' with
        | false =>
          have HOK : Hid (okBk L V H = false) := HVB.out hval
          rw [hval] at HMQ
          go_wp2_with fail
          refine HMQ.out.mono ?_
          rintro e w2 ⟨rfl, hf2⟩
          have HF2 : Hid (Fr (fun _ => False) w1 w2) := HFr.out.trans hf2 (fun _ _ h => h)
          clear hf2 c0 c1 c2 c3 c4
          have hbk := HBX.out _ (HF2.out)
          obtain ⟨z0, z1, z2, zf⟩ := cell_of_three hbk
          have y0 := zf 0
          have y1 := zf 1
          have y2 := zf 2
          have hb5 := set3_cells hbk (.int .i64 0) (.int .i64 0) (.slice none 0 0)
          have HF5 : Hid (Fr (fun _ => False) w ((((w2).setCell ⟨w.heap.size, 0, none⟩ (.int .i64 0)).setCell ⟨w.heap.size, 1, none⟩ (.int .i64 0)).setCell ⟨w.heap.size, 2, none⟩ (.slice none 0 0))) := Fr.set3 (HA.out.trans (HF2.out) (fun _ _ h => h)) (Nat.le_refl _) _ _ _
          clear zf hbk
          go_wp2_with fail
          generalize ((((w2).setCell ⟨w.heap.size, 0, none⟩ (.int .i64 0)).setCell ⟨w.heap.size, 1, none⟩ (.int .i64 0)).setCell ⟨w.heap.size, 2, none⟩ (.slice none 0 0)) = w5 at hb5 HF5 ⊢
          obtain ⟨m0, m1, m2, _⟩ := cell_of_three hb5
          refine bodyPost_ret (v := .tuple #[.agg #[.int .i64 0, .int .i64 0, .slice none 0 0], .int .i64 90]) (by simp [results, Try.results19, go_sem, m0, m1, m2]) rfl ?_
          exact ⟨fun h => absurd (h.symm.trans HOK.out) (by decide), fun _ => rfl, HF5.out⟩
        | true =>
          have HGE : Hid (∀ (j : Nat) (h : j < L.length), j < k + 1 → validB L[j].x L[j].y L[j].l = true) := HVG.out hval
          rw [hval] at HMQ
          go_wp2_with fail
          refine HMQ.out.mono ?_
          rintro e w2 ⟨rfl, hf2⟩
          have HF2 : Hid (Fr (fun _ => False) w1 w2) := HFr.out.trans hf2 (fun _ _ h => h)
          clear hf2 c0 c1 c2 c3 c4
          go_wp2_with fail
          go_roundg (L.length - (k + 1))
          case measure => omega
          case rel => exact ⟨k + 1, by omega, rfl, HGE, HF2.out⟩
      · have hdk : decide (k < L.length) = false := decide_eq_false hkH
        have HAL : Hid (∀ (j : Nat) (h : j < L.length), validB L[j].x L[j].y L[j].l = true) := fun j hj => HGD.out j hj (by omega)
        have HOK : Hid (okBk L V H = true) := by
          show _ = _
          unfold okBk
          rw [HSZ.out, Bool.true_and, List.all_eq_true]
          intro r hr
          obtain ⟨j, hj, rfl⟩ := List.getElem_of_mem hr
          exact HAL.out j hj
        clear HGD
        go_wp2_with fail
        refine (zwhite_any V H _ HV.out.1 HV.out.2.1 HV.out.2.2).mono ?_
        rintro e w2 ⟨g, rfl, hr2, hf2, hg2⟩
        have HF2 : Hid (Fr (fun _ => False) w1 w2) := HFr.out.trans hf2 (fun _ _ h => h)
        have HR2 : Hid (RowAt w2 g (H * stride V) V H (backP (L.take 0))) := hr2
        clear hr2 hf2
        go_wp2_with fail
        obtain ⟨N, HN⟩ : ∃ N, Hid (H * stride V = N) := ⟨_, rfl⟩
        rw [HN.out] at HR2
        rw [HN.out]
        obtain ⟨w3, hw3⟩ : ∃ w3, w3 = w2.alloc (.cells #[.int .i64 V, .int .i64 H, .slice (some ⟨g, 0, none⟩) N N] 25) := ⟨_, rfl⟩
        have HGW : Hid (wr.heap.size ≤ g ∧ g < w2.heap.size ∧ w1.heap.size ≤ wr.heap.size) := ⟨hg2, HR2.out.lt, HFr.out.size⟩
        have HR3 : Hid (RowAt w3 g N V H (backP (L.take 0))) := by rw [hw3]; exact HR2.out.kept ((Fr.refl (fun _ => False) _).alloc _) (fun h => h)
        have HF3 : Hid (Fr (fun _ => False) w1 w3) := by rw [hw3]; exact HF2.out.alloc _
        have HF1X : Hid (∀ w', Fr (fun k => k = g) w3 w' → Fr (fun _ => False) w1 w') := fun w' f => HF3.out.trans f (fun i hi e => by have := HGW.out; omega)
        have HCB : Hid (∀ w', Fr (fun k => k = g) w3 w' → w'.cell? ⟨w2.heap.size, 0, none⟩ = some (.int .i64 V) ∧ w'.cell? ⟨w2.heap.size, 1, none⟩ = some (.int .i64 H) ∧ w'.cell? ⟨w2.heap.size, 2, none⟩ = some (.slice (some ⟨g, 0, none⟩) N N)) := fun w' f => by
          have hg := HGW.out
          have hsz : w3.heap.size = w2.heap.size + 1 := by rw [hw3, World.size_alloc]
          have hb : w3.heap[w2.heap.size]? = some (.cells #[.int .i64 V, .int .i64 H, .slice (some ⟨g, 0, none⟩) N N] 25 (0, 0)) := by rw [hw3]; exact heap_alloc_new _ _
          obtain ⟨z0, z1, z2, _⟩ := cell_of_three ((f.block _ (by omega) (by omega)).trans hb)
          exact ⟨z0, z1, z2⟩
        have HG0 : Hid (w.heap.size ≤ g) := by have := HGW.out; have h2 := HA.out.size; show w.heap.size ≤ g; omega
        have HGE0 : Hid (g = w.heap.size → False) := fun e => by have := HGW.out; have := lt_of_block (HBX.out _ (Fr.refl _ _)); omega
        rw [← hw3]
        obtain ⟨tb, HTB⟩ : ∃ tb, Hid (w2.heap.size = tb) := ⟨_, rfl⟩
        rw [HTB.out] at HCB
        rw [HTB.out]
        clear hw3 HR2 HF2 HF3 HTB hg2 HFr hdk hkH hkq HGW
        go_loopg [10] L.length (fun q i wr => ∃ k : Nat, k + q = L.length ∧ i = .int .i64 k ∧ RowAt wr g N V H (backP (L.take k)) ∧ Fr (fun k => k = g) w3 wr)
        case atStart => exact ⟨0, by omega, rfl, HR3.out, Fr.refl _ _⟩
        case round =>
          clear HR3
          obtain ⟨k, hkq, rfl, hrow, hfr⟩ := hrel
          have HRw : Hid (RowAt wr g N V H (backP (L.take k))) := hrow
          have HFr : Hid (Fr (fun k => k = g) w3 wr) := hfr
          clear hrow hfr
          by_cases hkH : k < L.length
          · have hdk : decide (k < L.length) = true := decide_eq_true hkH
            obtain ⟨ao', cap', e', _, _, hcc⟩ := HSN.out wr (HA.out.trans (HF1X.out _ HFr.out) (fun _ _ h => h))
            simp only [Value.slice.injEq] at e'
            obtain ⟨rfl, -, rfl⟩ := e'
            obtain ⟨bL, off, rfl, -⟩ := hcc (fun e => by rw [e] at hkH; simp at hkH)
            have HCL : Hid (∀ w', Fr (fun k => k = g) w3 w' → (w'.cell? ⟨bL, off + k * 5, none⟩ = some (.int .i64 L[k].X) ∧ w'.cell? ⟨bL, off + k * 5 + 1, none⟩ = some (.int .i64 L[k].Y) ∧ w'.cell? ⟨bL, off + k * 5 + 2, none⟩ = some (.int .i64 L[k].x) ∧ w'.cell? ⟨bL, off + k * 5 + 3, none⟩ = some (.int .i64 L[k].y) ∧ w'.cell? ⟨bL, off + k * 5 + 4, none⟩ = some L[k].v) ∧ RpOK w' L[k]) := fun w' f => by
              obtain ⟨ao', cap', e', _, hoks, hcc⟩ := HSN.out w' (HA.out.trans (HF1X.out _ f) (fun _ _ h => h))
              simp only [Value.slice.injEq] at e'
              obtain ⟨rfl, -, rfl⟩ := e'
              obtain ⟨bL', off', e, hcell⟩ := hcc (fun e => by rw [e] at hkH; simp at hkH)
              simp only [Option.some.injEq, Addr.mk.injEq, and_true] at e
              obtain ⟨rfl, rfl⟩ := e
              exact ⟨hcell k hkH, hoks _ (List.getElem_mem hkH)⟩
            have hval := HAL.out k hkH
            have hcp := HCP.out L[k] (List.getElem_mem hkH)
            have HTK : Hid (backP (L.take (k + 1)) = orP (backP (L.take k)) L[k]) := orP_take L k hkH
            clear hcc
            generalize L[k] = r at *
            obtain ⟨rX, rY, rx, ry, rv, rl'⟩ := r
            simp only at hval hcp HCL
            obtain ⟨_, hro⟩ := HCL.out wr HFr.out
            have bX := hro.X
            have bY := hro.Y
            obtain ⟨Ws, Hs, Pp, rfl, rfl, rfl, hbm⟩ := valid_bm hval hro.seen hcp hro.lt
            have HBQ : Hid (∀ w', Fr (fun k => k = g) w3 w' → Bm w' rv Ws Hs Pp) := fun w' f => ⟨(HCL.out w' f).2.seen, hbm.cap, hbm.h1, hbm.h2, hbm.h3⟩
            obtain ⟨aoB, cB, eB, _⟩ := hro.seen
            simp only at eB
            subst eB
            generalize hnn : (render Ws Hs Pp).length = nn at *
            have HNN : Hid ((render Ws Hs Pp).length = nn) := hnn
            clear hnn hval hcp hro hbm
            have HLY : Hid (∀ w', Fr (fun _ => False) wr w' → Calls Try.prog 31 #[.agg #[.int .i64 V, .int .i64 H, .slice (some ⟨g, 0, none⟩) N N], .int .i64 rX, .int .i64 rY, .int .i64 0, .agg #[.int .i64 Ws, .int .i64 Hs, .slice aoB nn cB]] w' fun e w'' => e = .returned (.tuple #[]) ∧ RowAt w'' g N V H (backP (L.take (k + 1))) ∧ Fr (fun k => k = g) w' w'') := fun w' f => by
              have hv := HV.out
              have := lay_or V H g N (backP (L.take k)) rX rY Ws Hs (.slice aoB nn cB) Pp w' (HRw.out.kept f (fun h => h)) (fun w'' f2 => HBQ.out w'' ((HFr.out.trans f (fun _ _ h => h.elim)).trans f2 (fun _ _ h => h))) hv.1 hv.2.1 hv.2.2 bX bY
              rw [HN.out] at this
              refine this.mono ?_
              rintro e w'' ⟨he, hr, hf⟩
              refine ⟨he, hr.pixO (fun a e _ _ => ?_), hf⟩
              rw [HTK.out]
              exact laid_orP _ _ _ _ _ _ _ _ _
            have HHD : Hid (∀ w', Fr (fun k => k = g) w3 w' → w'.cell? ⟨tb, 0, none⟩ = some (.int .i64 V) ∧ w'.cell? ⟨tb, 1, none⟩ = some (.int .i64 H) ∧ w'.cell? ⟨tb, 2, none⟩ = some (.slice (some ⟨g, 0, none⟩) N N) ∧ w'.cell? ⟨bL, off + k * 5, none⟩ = some (.int .i64 rX) ∧ w'.cell? ⟨bL, off + k * 5 + 1, none⟩ = some (.int .i64 rY) ∧ w'.cell? ⟨bL, off + k * 5 + 2, none⟩ = some (.int .i64 Ws) ∧ w'.cell? ⟨bL, off + k * 5 + 3, none⟩ = some (.int .i64 Hs) ∧ w'.cell? ⟨bL, off + k * 5 + 4, none⟩ = some (.slice aoB nn cB)) := fun w' f => by
              obtain ⟨a0, a1, a2⟩ := HCB.out w' f
              exact ⟨a0, a1, a2, (HCL.out w' f).1⟩
            obtain ⟨h0, h1, h2, h3, h4, h5, h6, h7⟩ := HHD.out _ HFr.out
            go_wp2_with fail
            go_region_held3 (fun w' => w'.cell? ⟨tb, 0, none⟩ = some (.int .i64 V) ∧ w'.cell? ⟨tb, 1, none⟩ = some (.int .i64 H) ∧ w'.cell? ⟨tb, 2, none⟩ = some (.slice (some ⟨g, 0, none⟩) N N) ∧ w'.cell? ⟨bL, off + k * 5, none⟩ = some (.int .i64 rX) ∧ w'.cell? ⟨bL, off + k * 5 + 1, none⟩ = some (.int .i64 rY) ∧ w'.cell? ⟨bL, off + k * 5 + 2, none⟩ = some (.int .i64 Ws) ∧ w'.cell? ⟨bL, off + k * 5 + 3, none⟩ = some (.int .i64 Hs) ∧ w'.cell? ⟨bL, off + k * 5 + 4, none⟩ = some (.slice aoB nn cB)) (exact HHD.out _ (by repeat (first | with_reducible exact HFr.out | with_reducible refine Fr.drew ?_ | with_reducible refine Fr.drewN ?_ _ | with_reducible refine Fr.trans ?_ hf9 (fun _ _ h => h)))) (first | (go_at_call 31; refine (HLY.out _ (by repeat (first | with_reducible exact Fr.refl _ _ | with_reducible refine Fr.drew ?_ | with_reducible refine Fr.drewN ?_ _))).mono ?_; rintro e w9 ⟨rfl, hr9, hf9⟩))
            have HR9 : Hid (RowAt w9 g N V H (backP (L.take (k + 1)))) := hr9
            have HF9 : Hid (Fr (fun k => k = g) w3 w9) := (HFr.out.drew).trans hf9 (fun _ _ h => h)
            clear hr9 hf9 h0 h1 h2 h3 h4 h5 h6 h7
            go_wp2_with fail
            go_roundg (L.length - (k + 1))
            case measure => omega
            case rel => exact ⟨k + 1, by omega, rfl, HR9.out, HF9.out⟩
          · have hdk : decide (k < L.length) = false := decide_eq_false hkH
            have HRe : Hid (RowAt wr g N V H (backP L)) := by
              have := HRw.out
              rwa [show k = L.length by omega, List.take_length] at this
            obtain ⟨a0, a1, a2⟩ := HCB.out _ HFr.out
            have hbk := HBX.out _ (HF1X.out _ HFr.out)
            obtain ⟨z0, z1, z2, zf⟩ := cell_of_three hbk
            have y0 := zf 0
            have y1 := zf 1
            have y2 := zf 2
            have hb5 := set3_cells hbk (.int .i64 V) (.int .i64 H) (.slice (some ⟨g, 0, none⟩) N N)
            have HF5 : Hid (Fr (fun _ => False) w ((((wr).setCell ⟨w.heap.size, 0, none⟩ (.int .i64 V)).setCell ⟨w.heap.size, 1, none⟩ (.int .i64 H)).setCell ⟨w.heap.size, 2, none⟩ (.slice (some ⟨g, 0, none⟩) N N))) := Fr.set3 (HA.out.trans (HF1X.out _ HFr.out) (fun _ _ h => h)) (Nat.le_refl _) _ _ _
            have HX5 : Hid (Fr (fun k => k = w.heap.size) (wr) ((((wr).setCell ⟨w.heap.size, 0, none⟩ (.int .i64 V)).setCell ⟨w.heap.size, 1, none⟩ (.int .i64 H)).setCell ⟨w.heap.size, 2, none⟩ (.slice (some ⟨g, 0, none⟩) N N))) := (((Fr.refl (fun k => k = w.heap.size) _).setCell (p := ⟨w.heap.size, 0, none⟩) (fun _ => rfl) _).setCell (p := ⟨w.heap.size, 1, none⟩) (fun _ => rfl) _).setCell (p := ⟨w.heap.size, 2, none⟩) (fun _ => rfl) _
            clear zf hbk
            go_wp2_with fail
            generalize ((((wr).setCell ⟨w.heap.size, 0, none⟩ (.int .i64 V)).setCell ⟨w.heap.size, 1, none⟩ (.int .i64 H)).setCell ⟨w.heap.size, 2, none⟩ (.slice (some ⟨g, 0, none⟩) N N)) = w5 at hb5 HF5 HX5 ⊢
            obtain ⟨m0, m1, m2, _⟩ := cell_of_three hb5
            refine bodyPost_ret (v := .tuple #[.agg #[.int .i64 V, .int .i64 H, .slice (some ⟨g, 0, none⟩) N N], .int .i64 0]) (by simp [results, Try.results19, go_sem, m0, m1, m2]) rfl ?_
            refine ⟨fun _ => ⟨g, N, ?_, ?_, HG0.out⟩, fun h => absurd (h.symm.trans HOK.out) (by decide), HF5.out⟩
            · rw [Int.toNat_natCast, Int.toNat_natCast, HN.out]
            · rw [Int.toNat_natCast, Int.toNat_natCast]
              exact HRe.out.kept HX5.out (fun e => HGE0.out e)

end Go.Proofs.Ytgpciopoionmeaa
