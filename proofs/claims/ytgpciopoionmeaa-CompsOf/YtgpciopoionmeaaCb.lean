/- 'Back': pieces are laid onto a white bitmap. -/
import Derived.Test.YtgpciopoionmeaaBe
import Derived.Test.YtgpciopoionmeaaFm
import Derived.Test.YtgpciopoionmeaaCp
import Derived.Test.YtgpciopoionmeaaFi
import Derived.Test.YtgpciopoionmeaaPo
namespace Go.Proofs.Ytgpciopoionmeaa
open Go.RowKit

def in64 (a : Int) : Prop := -9223372036854775808 ≤ a ∧ a ≤ 9223372036854775807
/-- A piece as it is handed in: its place, its size, its words. -/
structure Rp where
  X : Int
  Y : Int
  x : Int
  y : Int
  v : Value
  l : List Nat
structure RpOK (w : World) (r : Rp) : Prop where
  X : in64 r.X
  Y : in64 r.Y
  x : in64 r.x
  y : in64 r.y
  seen : Seen w r.v r.l
  lt : ∀ j : Nat, r.l[j]?.getD 0 < 18446744073709551616
theorem RpOK.kept {w w' : World} {r : Rp} (h : RpOK w r) (f : Fr (fun _ => False) w w') : RpOK w' r := ⟨h.X, h.Y, h.x, h.y, h.seen.kept f, h.lt⟩
def SeenPs (w : World) (v : Value) (L : List Rp) : Prop := ∃ ao cap, v = .slice ao L.length cap ∧ L.length ≤ 9223372036854775807 ∧ (∀ r ∈ L, RpOK w r) ∧
  (L ≠ [] → ∃ b off, ao = some ⟨b, off, none⟩ ∧ ∀ (i : Nat) (h : i < L.length), w.cell? ⟨b, off + i * 5, none⟩ = some (.int .i64 L[i].X) ∧ w.cell? ⟨b, off + i * 5 + 1, none⟩ = some (.int .i64 L[i].Y) ∧ w.cell? ⟨b, off + i * 5 + 2, none⟩ = some (.int .i64 L[i].x) ∧ w.cell? ⟨b, off + i * 5 + 3, none⟩ = some (.int .i64 L[i].y) ∧ w.cell? ⟨b, off + i * 5 + 4, none⟩ = some L[i].v)
theorem SeenPs.kept {w w' : World} {v : Value} {L : List Rp} (h : SeenPs w v L) (f : Fr (fun _ => False) w w') : SeenPs w' v L := by
  obtain ⟨ao, cap, e, hl, ho, hc⟩ := h
  refine ⟨ao, cap, e, hl, fun r hr => (ho r hr).kept f, fun hn => ?_⟩
  obtain ⟨b, off, e2, hcc⟩ := hc hn
  refine ⟨b, off, e2, fun i hi => ?_⟩
  obtain ⟨a0, a1, a2, a3, a4⟩ := hcc i hi
  have k : ∀ {j : Nat} {u : Value}, w.cell? ⟨b, j, none⟩ = some u → w'.cell? ⟨b, j, none⟩ = some u := fun h => by rw [f.cellEq (seen_lt h) (fun h => h)]; exact h
  exact ⟨k a0, k a1, k a2, k a3, k a4⟩
/-- A piece laid onto pixels. -/
def orP (P : Nat → Nat → Bool) (r : Rp) : Nat → Nat → Bool := fun a e => P a e || (decide (0 ≤ (a : Int) - r.X ∧ (a : Int) - r.X < r.x ∧ 0 ≤ (e : Int) - r.Y ∧ (e : Int) - r.Y < r.y) && pixOf r.x.toNat r.l ((a : Int) - r.X).toNat ((e : Int) - r.Y).toNat)
def backP (L : List Rp) : Nat → Nat → Bool := L.foldl orP (fun _ _ => false)
def okBk (L : List Rp) (x y : Int) : Bool := sizeOK x y && L.all fun r => validB r.x r.y r.l
theorem blit_or {P : Nat → Nat → Bool} {r : Rp} {Ws Hs : Nat} (hx : r.x = Ws) (hy : r.y = Hs) (a e : Nat) : blitPix (opB 0) P (pixOf Ws r.l) Ws Hs 0 0 Ws Hs r.X r.Y a e = orP P r a e := by
  unfold blitPix orP opB
  rw [hx, hy]
  by_cases h : 0 ≤ (a : Int) - r.X ∧ (a : Int) - r.X < Ws ∧ 0 ≤ (e : Int) - r.Y ∧ (e : Int) - r.Y < Hs
  · rw [if_pos (by omega), if_pos rfl, decide_eq_true h, Bool.true_and, Int.zero_add, Int.zero_add, Int.toNat_natCast]
  · rw [if_neg (by omega), decide_eq_false h]; simp
structure CBackP (w : World) (x y : Int) (L : List Rp) (e : Ending) (w' : World) : Prop where
  ok : okBk L x y = true → ∃ g cap, e = .returned (.tuple #[.agg #[.int .i64 x, .int .i64 y, .slice (some ⟨g, 0, none⟩) (y.toNat * stride x.toNat) cap], .int .i64 0]) ∧ RowAt w' g cap x.toNat y.toNat (backP L) ∧ w.heap.size ≤ g
  bad : okBk L x y = false → e = .returned (.tuple #[.agg #[.int .i64 0, .int .i64 0, .slice none 0 0], .int .i64 90])
  fr : Fr (fun _ => False) w w'
theorem orP_take (L : List Rp) (i : Nat) (h : i < L.length) : backP (L.take (i + 1)) = orP (backP (L.take i)) L[i] := by
  unfold backP
  rw [List.take_add_one, List.getElem?_eq_getElem h, List.foldl_append]; rfl

set_option maxRecDepth 100000 in
set_option maxHeartbeats 8000000 in
theorem cback_any (v : Value) (L : List Rp) (x y : Int) (w : World) (hv : SeenPs w v L) (hx : in64 x) (hy : in64 y) :
    Calls Try.prog 18 #[v, .int .i64 x, .int .i64 y] w fun e w' => CBackP w x y L e w' := by
  have HSN : Hid (∀ w', Fr (fun _ => False) w w' → SeenPs w' v L) := fun w' f => hv.kept f
  obtain ⟨ao, cap0, rfl, hl, _, _⟩ := hv
  have HA : Hid (Fr (fun _ => False) w (w.alloc (.cells #[.int .i64 0, .int .i64 0, .slice none 0 0] 25))) := (Fr.refl _ _).alloc _
  have HBX : Hid (∀ w', Fr (fun _ => False) (w.alloc (.cells #[.int .i64 0, .int .i64 0, .slice none 0 0] 25)) w' → w'.heap[w.heap.size]? = some (.cells #[.int .i64 0, .int .i64 0, .slice none 0 0] 25 (0, 0))) := fun w' hf => (hf.block w.heap.size (by simp) (fun hh => hh)).trans (heap_alloc_new w _)
  by_cases hs : sizeOK x y = false
  · have HOK : Hid (okBk L x y = false) := by show _ = _; unfold okBk; rw [hs]; rfl
    have HNo : Hid (∀ w', Calls Try.prog 41 #[.int .i64 x, .int .i64 y] w' fun e w'' => e = .returned (.tuple #[.pointer none, .int .i64 20]) ∧ w'' = w') := fun w' => new_no x y w' hx hy hs
    go_enter Try.func18, Try.ntmps18
    go_wp2_with fail
    generalize w.alloc (.cells #[.int .i64 0, .int .i64 0, .slice none 0 0] 25) = w0 at *
    refine (HNo.out _).mono ?_
    rintro e w1 ⟨rfl, rfl⟩
    have hbk := HBX.out _ (Fr.refl _ _)
    obtain ⟨z0, z1, z2, zf⟩ := cell_of_three hbk
    have y0 := zf 0
    have y1 := zf 1
    have y2 := zf 2
    have hb5 := set3_cells hbk (.int .i64 0) (.int .i64 0) (.slice none 0 0)
    have HF5 : Hid (Fr (fun _ => False) w ((((w1).setCell ⟨w.heap.size, 0, none⟩ (.int .i64 0)).setCell ⟨w.heap.size, 1, none⟩ (.int .i64 0)).setCell ⟨w.heap.size, 2, none⟩ (.slice none 0 0))) := Fr.set3 (HA.out.trans (Fr.refl _ _) (fun _ _ h => h)) (Nat.le_refl _) _ _ _
    have HX5 : Hid (Fr (fun k => k = w.heap.size) (w1) ((((w1).setCell ⟨w.heap.size, 0, none⟩ (.int .i64 0)).setCell ⟨w.heap.size, 1, none⟩ (.int .i64 0)).setCell ⟨w.heap.size, 2, none⟩ (.slice none 0 0))) := (((Fr.refl (fun k => k = w.heap.size) _).setCell (p := ⟨w.heap.size, 0, none⟩) (fun _ => rfl) _).setCell (p := ⟨w.heap.size, 1, none⟩) (fun _ => rfl) _).setCell (p := ⟨w.heap.size, 2, none⟩) (fun _ => rfl) _
    clear zf hbk
    go_wp2_with fail
    generalize ((((w1).setCell ⟨w.heap.size, 0, none⟩ (.int .i64 0)).setCell ⟨w.heap.size, 1, none⟩ (.int .i64 0)).setCell ⟨w.heap.size, 2, none⟩ (.slice none 0 0)) = w5 at hb5 HF5 HX5 ⊢
    obtain ⟨m0, m1, m2, _⟩ := cell_of_three hb5
    refine bodyPost_ret (v := .tuple #[.agg #[.int .i64 0, .int .i64 0, .slice none 0 0], .int .i64 90]) (by simp [results, Try.results18, go_sem, m0, m1, m2]) rfl ?_
    exact ⟨fun h => absurd (h.symm.trans HOK.out) (by decide), fun _ => rfl, HF5.out⟩
  · rw [Bool.not_eq_false] at hs
    have HSZ : Hid (sizeOK x y = true) := hs
    unfold sizeOK at hs
    obtain ⟨s1, s2, s3⟩ := of_decide_eq_true hs
    obtain ⟨V, rfl⟩ : ∃ V : Nat, x = V := ⟨x.toNat, by omega⟩
    obtain ⟨H, rfl⟩ : ∃ H : Nat, y = H := ⟨y.toNat, by omega⟩
    have s4 : V * H ≤ 1048576 := by rw [← Int.natCast_mul] at s3; omega
    have HNY : Hid (∀ w', Calls Try.prog 41 #[.int .i64 V, .int .i64 H] w' fun e w'' => ∃ b g, e = .returned (.tuple #[.pointer (some ⟨b, 0, none⟩), .int .i64 0]) ∧ NewMap w' w'' b g (H * stride V) V H (fun _ _ => false)) := fun w' => new_yes V H w' (by omega) (by omega) s4
    clear hs s1 s2 s3 s4 hx hy
    go_enter Try.func18, Try.ntmps18
    go_wp2_with fail
    generalize w.alloc (.cells #[.int .i64 0, .int .i64 0, .slice none 0 0] 25) = w0 at *
    refine (HNY.out _).mono ?_
    rintro e w1 ⟨b, g, rfl, hnew⟩
    have HM1 : Hid (MapAt w1 b g (H * stride V) V H (fun _ _ => false)) := hnew.at_
    have HF1 : Hid (Fr (fun _ => False) w0 w1) := hnew.fr
    have HG : Hid (w0.heap.size ≤ g ∧ w0.heap.size ≤ b) := ⟨hnew.ng, hnew.nb⟩
    clear hnew HNY
    generalize hcp : H * stride V = cap at *
    clear hcp
    go_wp2_with fail
    go_loopg [25] L.length (fun q i wr => ∃ k : Nat, k + q = L.length ∧ i = .int .i64 k ∧ Hid (∀ (j : Nat) (h : j < L.length), j < k → validB L[j].x L[j].y L[j].l = true) ∧ MapAt wr b g cap V H (backP (L.take k)) ∧ Fr (fun _ => False) w0 wr)
    case atStart => exact ⟨0, by omega, rfl, fun j _ hj => absurd hj (Nat.not_lt_zero _), HM1.out, HF1.out⟩
    case round =>
      clear HM1 HF1
      obtain ⟨k, hkq, rfl, HGD, hmap, hfr⟩ := hrel
      have HMp : Hid (MapAt wr b g cap V H (backP (L.take k))) := hmap
      have HFr : Hid (Fr (fun _ => False) w0 wr) := hfr
      clear hmap hfr
      by_cases hkH : k < L.length
      · have hdk : decide (k < L.length) = true := decide_eq_true hkH
        obtain ⟨ao', cap', e', _, hoks, hcc⟩ := HSN.out wr (HA.out.trans HFr.out (fun _ _ h => h))
        simp only [Value.slice.injEq] at e'
        obtain ⟨rfl, -, rfl⟩ := e'
        obtain ⟨bL, off, rfl, hcell⟩ := hcc (fun e => by rw [e] at hkH; simp at hkH)
        obtain ⟨c0, c1, c2, c3, c4⟩ := hcell k hkH
        have HRO : Hid (RpOK wr L[k]) := hoks _ (List.getElem_mem hkH)
        have HTK : Hid (backP (L.take (k + 1)) = orP (backP (L.take k)) L[k]) := orP_take L k hkH
        have HVB : Hid (validB L[k].x L[k].y L[k].l = false → okBk L V H = false) := fun h => by
          unfold okBk
          rw [Bool.and_eq_false_iff]
          right
          rw [List.all_eq_false]
          exact ⟨L[k], List.getElem_mem hkH, by rw [h]; decide⟩
        have HVG : Hid (validB L[k].x L[k].y L[k].l = true → ∀ (j : Nat) (h : j < L.length), j < k + 1 → validB L[j].x L[j].y L[j].l = true) := fun hv j hj hjk => by
          by_cases e : j = k
          · subst e; exact hv
          · exact HGD.out j hj (by omega)
        clear hcell hcc hoks
        generalize L[k] = r at *
        obtain ⟨rX, rY, rx, ry, rv, rl'⟩ := r
        simp only at c0 c1 c2 c3 c4
        obtain ⟨aoB, cB, eB, _⟩ := HRO.out.seen
        simp only at eB
        subst eB
        have HNB : Hid (∀ w', Fr (fun _ => False) (wr.alloc (.cells #[.int .i64 rX, .int .i64 rY, .int .i64 rx, .int .i64 ry, .slice aoB rl'.length cB] 34)) w' → w'.heap[wr.heap.size]? = some (.cells #[.int .i64 rX, .int .i64 rY, .int .i64 rx, .int .i64 ry, .slice aoB rl'.length cB] 34 (0, 0))) := fun w' hf => blkOld hf (heap_alloc_new wr _)
        have HMA : Hid (MapAt (wr.alloc (.cells #[.int .i64 rX, .int .i64 rY, .int .i64 rx, .int .i64 ry, .slice aoB rl'.length cB] 34)) b g cap V H (backP (L.take k))) := HMp.out.kept ((Fr.refl (fun _ => False) _).alloc _) (fun h => h) (fun h => h)
        have HFA : Hid (Fr (fun _ => False) w0 (wr.alloc (.cells #[.int .i64 rX, .int .i64 rY, .int .i64 rx, .int .i64 ry, .slice aoB rl'.length cB] 34))) := HFr.out.alloc _
        have HRA : Hid (RpOK (wr.alloc (.cells #[.int .i64 rX, .int .i64 rY, .int .i64 rx, .int .i64 ry, .slice aoB rl'.length cB] 34)) ⟨rX, rY, rx, ry, .slice aoB rl'.length cB, rl'⟩) := HRO.out.kept ((Fr.refl (fun _ => False) _).alloc _)
        obtain ⟨n0, n1, n2, n3, n4, _⟩ := cell_of_five (HNB.out _ (Fr.refl _ _))
        cases hval : validB rx ry rl' with
        | false =>
          have HOK : Hid (okBk L V H = false) := HVB.out hval
          have HFN : Hid (Calls Try.prog 26 #[.agg #[.int .i64 rx, .int .i64 ry, .slice aoB rl'.length cB]] (wr.alloc (.cells #[.int .i64 rX, .int .i64 rY, .int .i64 rx, .int .i64 ry, .slice aoB rl'.length cB] 34)) fun e w' => e = .returned (.tuple #[.pointer none, .int .i64 21]) ∧ Fr (fun _ => False) (wr.alloc (.cells #[.int .i64 rX, .int .i64 rY, .int .i64 rx, .int .i64 ry, .slice aoB rl'.length cB] 34)) w') := from_no rx ry _ rl' _ HRA.out.x HRA.out.y HRA.out.seen HRA.out.lt hval
          go_wp2_with fail
          refine HFN.out.mono ?_
          rintro e w2 ⟨rfl, hf2⟩
          have HF2 : Hid (Fr (fun _ => False) w0 w2) := HFA.out.trans hf2 (fun _ _ h => h)
          clear hf2 n0 n1 n2 n3 n4
          have hbk := HBX.out _ (HF2.out)
          obtain ⟨z0, z1, z2, zf⟩ := cell_of_three hbk
          have y0 := zf 0
          have y1 := zf 1
          have y2 := zf 2
          have hb5 := set3_cells hbk (.int .i64 0) (.int .i64 0) (.slice none 0 0)
          have HF5 : Hid (Fr (fun _ => False) w ((((w2).setCell ⟨w.heap.size, 0, none⟩ (.int .i64 0)).setCell ⟨w.heap.size, 1, none⟩ (.int .i64 0)).setCell ⟨w.heap.size, 2, none⟩ (.slice none 0 0))) := Fr.set3 (HA.out.trans (HF2.out) (fun _ _ h => h)) (Nat.le_refl _) _ _ _
          have HX5 : Hid (Fr (fun k => k = w.heap.size) (w2) ((((w2).setCell ⟨w.heap.size, 0, none⟩ (.int .i64 0)).setCell ⟨w.heap.size, 1, none⟩ (.int .i64 0)).setCell ⟨w.heap.size, 2, none⟩ (.slice none 0 0))) := (((Fr.refl (fun k => k = w.heap.size) _).setCell (p := ⟨w.heap.size, 0, none⟩) (fun _ => rfl) _).setCell (p := ⟨w.heap.size, 1, none⟩) (fun _ => rfl) _).setCell (p := ⟨w.heap.size, 2, none⟩) (fun _ => rfl) _
          clear zf hbk
          go_wp2_with fail
          generalize ((((w2).setCell ⟨w.heap.size, 0, none⟩ (.int .i64 0)).setCell ⟨w.heap.size, 1, none⟩ (.int .i64 0)).setCell ⟨w.heap.size, 2, none⟩ (.slice none 0 0)) = w5 at hb5 HF5 HX5 ⊢
          obtain ⟨m0, m1, m2, _⟩ := cell_of_three hb5
          refine bodyPost_ret (v := .tuple #[.agg #[.int .i64 0, .int .i64 0, .slice none 0 0], .int .i64 90]) (by simp [results, Try.results18, go_sem, m0, m1, m2]) rfl ?_
          exact ⟨fun h => absurd (h.symm.trans HOK.out) (by decide), fun _ => rfl, HF5.out⟩
        | true =>
          obtain ⟨Ws, Hs, rfl, rfl, p1, p2, p3, p4, p5⟩ := valid_parts hval
          have HFY : Hid (Calls Try.prog 26 #[.agg #[.int .i64 Ws, .int .i64 Hs, .slice aoB rl'.length cB]] (wr.alloc (.cells #[.int .i64 rX, .int .i64 rY, .int .i64 Ws, .int .i64 Hs, .slice aoB rl'.length cB] 34)) fun e w' => ∃ bs gs cs, e = .returned (.tuple #[.pointer (some ⟨bs, 0, none⟩), .int .i64 0]) ∧ NewMap (wr.alloc (.cells #[.int .i64 rX, .int .i64 rY, .int .i64 Ws, .int .i64 Hs, .slice aoB rl'.length cB] 34)) w' bs gs cs Ws Hs (pixOf Ws rl')) := from_yes Ws Hs _ rl' _ p1 p2 p3 HRA.out.seen HRA.out.lt p4 p5
          have HGD2 := HVG.out hval
          have HGE : Hid (∀ (j : Nat) (h : j < L.length), j < k + 1 → validB L[j].x L[j].y L[j].l = true) := HGD2
          obtain ⟨t1, t2, _⟩ := size_facts p1 p2 p3
          have bX := HRA.out.X
          have bY := HRA.out.Y
          have HPX : Hid (∀ a e, a < V → e < H → blitPix (opB 0) (backP (L.take k)) (pixOf Ws rl') Ws Hs 0 0 Ws Hs rX rY a e = backP (L.take (k + 1)) a e) := fun a e _ _ => by
            rw [HTK.out]
            exact blit_or (r := ⟨rX, rY, Ws, Hs, .slice aoB rl'.length cB, rl'⟩) rfl rfl a e
          clear HGD2 hval p1 p2 p3 p4 p5 HRA HTK HVB HVG HRO
          go_wp2_with fail
          refine HFY.out.mono ?_
          rintro e w2 ⟨bs, gs, cs, rfl, hnw⟩
          have HM2 : Hid (MapAt w2 b g cap V H (backP (L.take k))) := HMA.out.kept hnw.fr (fun h => h) (fun h => h)
          have HS2 : Hid (MapAt w2 bs gs cs Ws Hs (pixOf Ws rl')) := hnw.at_
          have HF2 : Hid (Fr (fun _ => False) w0 w2) := HFA.out.trans hnw.fr (fun _ _ h => h)
          have hne1 : bs ≠ b := fun e => by have := HMA.out.lt; have := hnw.nb; omega
          have hne2 : bs ≠ g := fun e => by have := HMA.out.glt; have := hnw.nb; omega
          have hne3 : gs ≠ g := fun e => by have := HMA.out.glt; have := hnw.ng; omega
          have HBL : Hid (Calls Try.prog 42 #[.pointer (some ⟨b, 0, none⟩), .pointer (some ⟨bs, 0, none⟩), .int .i64 0, .int .i64 0, .int .i64 Ws, .int .i64 Hs, .int .i64 rX, .int .i64 rY, .int .i64 ((0 : Nat) : Int)] w2 fun e w' => e = .returned (.int .i64 0) ∧ MapAt w' b g cap V H (blitPix (opB 0) (backP (L.take k)) (pixOf Ws rl') Ws Hs 0 0 Ws Hs rX rY) ∧ Fr (fun k => k = g) w2 w') := blit_other 0 b g cap V H bs gs cs Ws Hs _ _ 0 0 Ws Hs rX rY w2 HM2.out HS2.out (by decide) layOr hne1 hne2 hne3 (by omega) (by omega) (by omega) (by omega) bX bY
          obtain ⟨q0, q1, q2, q3, q4, _⟩ := cell_of_five (HNB.out _ hnw.fr)
          clear hnw n0 n1 n2 n3 n4 c0 c1 c2 c3 c4
          go_wp2_with fail
          refine HBL.out.mono ?_
          rintro e w3 ⟨rfl, hm3, hf3⟩
          have HM3 : Hid (MapAt w3 b g cap V H (backP (L.take (k + 1)))) := hm3.pix HPX.out
          have HF3 : Hid (Fr (fun _ => False) w0 w3) := HF2.out.trans hf3 (fun i hi e => by have := HG.out; omega)
          clear hm3 hf3 q0 q1 q2 q3 q4
          go_wp2_with fail
          go_roundg (L.length - (k + 1))
          case measure => omega
          case rel => exact ⟨k + 1, by omega, rfl, HGE.out, HM3.out, HF3.out⟩
      · have hdk : decide (k < L.length) = false := decide_eq_false hkH
        have HOK : Hid (okBk L V H = true) := by
          show _ = _
          unfold okBk
          rw [HSZ.out, Bool.true_and, List.all_eq_true]
          intro r hr
          obtain ⟨j, hj, rfl⟩ := List.getElem_of_mem hr
          exact HGD.out j hj (by omega)
        have HMe : Hid (MapAt wr b g cap V H (backP L)) := by
          have := HMp.out
          rwa [show k = L.length by omega, List.take_length] at this
        clear HMp
        go_wp2_with fail
        refine (plain_any b g cap V H (backP L) wr HMe.out).mono ?_
        rintro e w2 ⟨g2, cap2, rfl, ho2, hf2, hg2⟩
        have HO2 : Hid (RowAt w2 g2 cap2 V H (backP L)) := ho2
        have HF2 : Hid (Fr (fun _ => False) w0 w2) := HFr.out.trans hf2 (fun _ _ h => h)
        have HG2 : Hid (w0.heap.size ≤ g2 ∧ w.heap.size < w0.heap.size) := ⟨by have := HFr.out.size; omega, lt_of_block (HBX.out _ (Fr.refl _ _))⟩
        clear ho2 hf2 hg2
        have hbk := HBX.out _ (HF2.out)
        obtain ⟨z0, z1, z2, zf⟩ := cell_of_three hbk
        have y0 := zf 0
        have y1 := zf 1
        have y2 := zf 2
        have hb5 := set3_cells hbk (.int .i64 (V : Int)) (.int .i64 (H : Int)) (.slice (some ⟨g2, 0, none⟩) (H * stride V) cap2)
        have HF5 : Hid (Fr (fun _ => False) w ((((w2).setCell ⟨w.heap.size, 0, none⟩ (.int .i64 (V : Int))).setCell ⟨w.heap.size, 1, none⟩ (.int .i64 (H : Int))).setCell ⟨w.heap.size, 2, none⟩ (.slice (some ⟨g2, 0, none⟩) (H * stride V) cap2))) := Fr.set3 (HA.out.trans (HF2.out) (fun _ _ h => h)) (Nat.le_refl _) _ _ _
        have HX5 : Hid (Fr (fun k => k = w.heap.size) (w2) ((((w2).setCell ⟨w.heap.size, 0, none⟩ (.int .i64 (V : Int))).setCell ⟨w.heap.size, 1, none⟩ (.int .i64 (H : Int))).setCell ⟨w.heap.size, 2, none⟩ (.slice (some ⟨g2, 0, none⟩) (H * stride V) cap2))) := (((Fr.refl (fun k => k = w.heap.size) _).setCell (p := ⟨w.heap.size, 0, none⟩) (fun _ => rfl) _).setCell (p := ⟨w.heap.size, 1, none⟩) (fun _ => rfl) _).setCell (p := ⟨w.heap.size, 2, none⟩) (fun _ => rfl) _
        clear zf hbk
        go_wp2_with fail
        generalize ((((w2).setCell ⟨w.heap.size, 0, none⟩ (.int .i64 (V : Int))).setCell ⟨w.heap.size, 1, none⟩ (.int .i64 (H : Int))).setCell ⟨w.heap.size, 2, none⟩ (.slice (some ⟨g2, 0, none⟩) (H * stride V) cap2)) = w5 at hb5 HF5 HX5 ⊢
        obtain ⟨m0, m1, m2, _⟩ := cell_of_three hb5
        refine bodyPost_ret (v := .tuple #[.agg #[.int .i64 (V : Int), .int .i64 (H : Int), .slice (some ⟨g2, 0, none⟩) (H * stride V) cap2], .int .i64 0]) (by simp [results, Try.results18, go_sem, m0, m1, m2]) rfl ?_
        refine ⟨fun _ => ⟨g2, cap2, ?_, ?_, by have := HG2.out; omega⟩, fun h => absurd (h.symm.trans HOK.out) (by decide), HF5.out⟩
        · rw [Int.toNat_natCast, Int.toNat_natCast]
        · rw [Int.toNat_natCast, Int.toNat_natCast]; exact HO2.out.kept HX5.out (by have := HG2.out; omega)

end Go.Proofs.Ytgpciopoionmeaa
