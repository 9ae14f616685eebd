/- Rows of runs in memory; 'Of'. -/
import Derived.Test.YtgpciopoionmeaaRu
import Derived.Test.YtgpciopoionmeaaMay
import Derived.Deep.RegionHeld3
namespace Go.Proofs.Ytgpciopoionmeaa
open Go.RowKit

/-- The runs of a bitmap. -/
def rowsL (W H : Nat) (P : Nat → Nat → Bool) : List (List (Nat × Nat)) := (List.range H).map fun y => rl (fun x => P x y) W
theorem length_rowsL (W H : Nat) (P : Nat → Nat → Bool) : (rowsL W H P).length = H := by simp [rowsL]
theorem rowsL_get (W H : Nat) (P : Nat → Nat → Bool) {y : Nat} (hy : y < H) : (rowsL W H P)[y]?.getD [] = rl (fun x => P x y) W := by
  unfold rowsL
  rw [List.getElem?_map, List.getElem?_range hy]; rfl

/-- Rows that a call has made: the block g holds slices of runs, the first k of them written. -/
structure OwnRR (w : World) (base g H k : Nat) (L : Nat → List (Nat × Nat)) (vs : List Value) : Prop where
  own : w.ownsRow base 97 1 (.slice (some ⟨g, 0, none⟩) H H) H vs
  at_ : ∀ y, y < k → w.ownsRow base 100 2 (vs[y]?.getD (.slice none 0 0)) (L y).length (runCells (L y))
theorem OwnRR.lt {w : World} {base g H k : Nat} {L : Nat → List (Nat × Nat)} {vs : List Value} (h : OwnRR w base g H k L vs) : base ≤ g ∧ g < w.heap.size := h.own.lt g rfl
theorem OwnRR.kept {S : Nat → Prop} {w w' : World} {base g H k : Nat} {L : Nat → List (Nat × Nat)} {vs : List Value} (h : OwnRR w base g H k L vs) (f : Fr S w w') (hs : ∀ i, base ≤ i → ¬ S i) : OwnRR w' base g H k L vs :=
  ⟨row_kept h.own f (fun i hi => hs i (h.own.lt i hi).1), fun y hy => row_kept (h.at_ y hy) f (fun i hi => hs i ((h.at_ y hy).lt i hi).1)⟩
/-- A row of runs is not a row of rows. -/
theorem own_ne {w : World} {base base' e e' s s' n n' g : Nat} {v : Value} {xs ys : List Value} {c m : Nat} (h : w.ownsRow base e s v n xs) (h' : w.ownsRow base' e' s' (.slice (some ⟨g, 0, none⟩) m c) n' ys) (he : e ≠ e') : v.ownBlock ≠ some g := by
  intro hv
  rcases h.2 with ⟨rfl, _⟩ | ⟨g1, c1, cur, rfl, _, hg1, _⟩
  · simp [Value.ownBlock] at hv
  · simp [Value.ownBlock] at hv
    subst hv
    rcases h'.2 with ⟨e1, _⟩ | ⟨g2, c2, cur2, e2, _, hg2, _⟩
    · cases e1
    · simp only [Value.slice.injEq, Option.some.injEq, Addr.mk.injEq] at e2
      obtain ⟨⟨rfl, _⟩, _⟩ := e2
      rw [hg1] at hg2
      simp at hg2
      exact he hg2.2
theorem Fr.slot {g y : Nat} {w w' : World} (h : Fr (fun k => k = g) w w') (u : Value) : Fr (fun k => k = g) w (w'.setCell ⟨g, y, none⟩ u) := h.setCell (p := ⟨g, y, none⟩) (fun _ => rfl) u
theorem own_slice {w : World} {base e s n : Nat} {v : Value} {xs : List Value} (h : w.ownsRow base e s v n xs) : ∃ ao c, v = .slice ao n c := by
  rcases h.2 with ⟨rfl, rfl⟩ | ⟨g1, c1, cur, rfl, _⟩
  · exact ⟨_, _, rfl⟩
  · exact ⟨_, _, rfl⟩
/-- The next row is stored. -/
theorem OwnRR.put {w : World} {base g H k : Nat} {L : Nat → List (Nat × Nat)} {vs : List Value} {u : Value} (h : OwnRR w base g H k L vs) (hk : k < H) (hu : w.ownsRow base 100 2 u (L k).length (runCells (L k))) :
    OwnRR (w.setCell ⟨g, k, none⟩ u) base g H (k + 1) L (vs.set k u) := by
  have hst := h.own.stored k u
  refine ⟨hst.1, fun y hy => ?_⟩
  have hl := h.own.1
  have hkp : ∀ {v : Value} {n : Nat} {xs : List Value}, w.ownsRow base 100 2 v n xs → (w.setCell ⟨g, k, none⟩ u).ownsRow base 100 2 v n xs := fun hv => hv.kept hst.2 (Or.inr (own_ne hv h.own (by decide)))
  by_cases e : y = k
  · subst e
    rw [List.getElem?_set_self (by omega)]
    exact hkp hu
  · rw [List.getElem?_set_ne (fun h => e h.symm)]
    exact hkp (h.at_ y (by omega))

theorem Try.infoRow : (Try.prog.info? 97).map (fun i => (i.zero, i.size, i.bytes)) = some (some (.slice none 0 0), 1, 24) := by kernel_rfl

set_option maxRecDepth 100000 in
set_option maxHeartbeats 2000000 in
theorem of_bad (x y : Int) (v : Value) (l : List Nat) (w : World) (hx : -9223372036854775808 ≤ x ∧ x ≤ 9223372036854775807) (hy : -9223372036854775808 ≤ y ∧ y ≤ 9223372036854775807) (hv : Seen w v l) (hlt : ∀ j : Nat, l[j]?.getD 0 < 18446744073709551616) (hb : validB x y l = false) :
    Calls Try.prog 34 #[.agg #[.int .i64 x, .int .i64 y, v]] w fun e w' => e = .returned (.tuple #[.slice none 0 0, .int .i64 80]) ∧ Fr (fun _ => False) w w' := by
  have HCK : Hid (∀ w', Fr (fun _ => False) w w' → Calls Try.prog 45 #[.agg #[.int .i64 x, .int .i64 y, v]] w' fun e w'' => e = .returned (.bool false) ∧ Fr (fun _ => False) w' w'') := fun w' hf => by
    have := check_any x y v l w' hx hy (hv.kept hf) hlt
    rwa [hb] at this
  obtain ⟨ao, cap, rfl, _, _⟩ := hv
  go_enter Try.func34, Try.ntmps34
  go_wp2_with fail
  refine (HCK.out _ ((Fr.refl _ _).alloc _)).mono ?_
  rintro e w1 ⟨rfl, hf1⟩
  have HF : Hid (Fr (fun _ => False) w w1) := ((Fr.refl _ _).alloc _).trans hf1 (fun _ _ h => h)
  clear hf1
  go_wp2_with fail
  go_ret2
  exact ⟨rfl, HF.out⟩

set_option maxRecDepth 100000 in
set_option maxHeartbeats 4000000 in
theorem of_ok (W H : Nat) (v : Value) (P : Nat → Nat → Bool) (w : World) (hb : Bm w v W H P) :
    Calls Try.prog 34 #[.agg #[.int .i64 W, .int .i64 H, v]] w fun e w' => ∃ g vs, e = .returned (.tuple #[.slice (some ⟨g, 0, none⟩) H H, .int .i64 0]) ∧ OwnRR w' w.heap.size g H H (fun y => rl (fun x => P x y) W) vs ∧ Fr (fun _ => False) w w' := by
  obtain ⟨i0, hi, hz0, hz1, hz2⟩ := info_parts Try.infoRow
  obtain ⟨f1, f2, f3⟩ := size_facts hb.h1 hb.h2 hb.h3
  have h1 := hb.h1
  have h2 := hb.h2
  have hS : stride W * H / H = stride W := Nat.mul_div_cancel _ (by omega)
  have HCK : Hid (∀ w', Fr (fun _ => False) w w' → Calls Try.prog 45 #[.agg #[.int .i64 W, .int .i64 H, v]] w' fun e w'' => e = .returned (.bool true) ∧ Fr (fun _ => False) w' w'') := fun w' hf => (hb.kept hf).check
  obtain ⟨ao, cap, rfl, hll, hcc⟩ := hb.seen
  have hcap := (hb.cap _ _ _ rfl).1
  have hcapm := (hb.cap _ _ _ rfl).2
  rw [length_render] at hcc hll hcap HCK ⊢
  have hne : render W H P ≠ [] := by
    intro e
    have := length_render W H P
    rw [e] at this
    simp only [List.length_nil] at this
    have := Nat.mul_le_mul h2 (stride_pos (W := W) (by omega))
    omega
  obtain ⟨b0, off, rfl, hcell⟩ := hcc hne
  have HRO : Hid (∀ (y : Nat) (w' : World) (c : Nat), y < H → Fr (fun _ => False) w w' → Calls Try.prog 55 #[.slice (some ⟨b0, off + y * stride W, none⟩) (stride W) c, .int .i64 W] w' fun e w'' => ∃ rv, e = .returned rv ∧ w''.ownsRow w'.heap.size 100 2 rv (rl (fun x => P x y) W).length (runCells (rl (fun x => P x y) W)) ∧ Fr (fun _ => False) w' w'') := fun y w' c hy hf => by
    refine runsOf_any b0 (off + y * stride W) W c (fun x => P x y) w' h1 f1 (fun k hk => ?_)
    have := hcell (y * stride W + k) (at_lt hy hk)
    rw [render_get P hy hk, Option.getD_some] at this
    rw [← Nat.add_assoc] at this
    rw [hf.cellEq (seen_lt this) (fun h => h)]
    exact this
  have HSP : Hid (0 < stride W) := stride_pos (by omega)
  have hSb : stride W ≤ 1048576 := by unfold stride; omega
  have HS : Hid (∀ y, y < H → (y + 1) * stride W ≤ H * stride W) := fun y hy => Nat.mul_le_mul_right _ hy
  clear hcell hcc hne hb hll
  generalize hgS : stride W = S at *
  have hdiv : ((H * S : Nat) : Int).tdiv (H : Int) = (S : Int) := by
    rw [Int.tdiv_eq_ediv_of_nonneg (by omega), ← Int.natCast_ediv, Nat.mul_comm, hS]
  have hws : wrap64 (S : Int) = (S : Int) := by simp only [wrap64]; omega
  clear hgS hS
  have HBX : Hid (∀ w', Fr (fun _ => False) (w.alloc (.cells #[.int .i64 W, .int .i64 H, .slice (some ⟨b0, off, none⟩) (H * S) cap] 25)) w' → w'.cell? ⟨w.heap.size, 0, none⟩ = some (.int .i64 W) ∧ w'.cell? ⟨w.heap.size, 1, none⟩ = some (.int .i64 H) ∧ w'.cell? ⟨w.heap.size, 2, none⟩ = some (.slice (some ⟨b0, off, none⟩) (H * S) cap)) := fun w' hf => by
    obtain ⟨c0, c1, c2, _⟩ := cell_of_three ((hf.block w.heap.size (by simp) (fun hh => hh)).trans (heap_alloc_new w _))
    exact ⟨c0, c1, c2⟩
  have HA : Hid (Fr (fun _ => False) w (w.alloc (.cells #[.int .i64 W, .int .i64 H, .slice (some ⟨b0, off, none⟩) (H * S) cap] 25))) := (Fr.refl _ _).alloc _
  have hdz : ((H : Int) == 0) = false := by rw [beq_eq_false_iff_ne]; omega
  generalize hN : H * S = N at *
  go_enter Try.func34, Try.ntmps34
  go_wp2_with fail
  generalize w.alloc (.cells #[.int .i64 W, .int .i64 H, .slice (some ⟨b0, off, none⟩) N cap] 25) = w0 at *
  refine (HCK.out _ HA.out).mono ?_
  rintro e w1 ⟨rfl, hf1⟩
  have HF1 : Hid (Fr (fun _ => False) w0 w1) := hf1
  obtain ⟨c0, c1, c2⟩ := HBX.out _ hf1
  clear hf1 HCK
  go_wp2_with (first | (at_make; refine wpList_make_full _ rfl _ _ 63 rfl w.heap.size 97 i0 (.slice none 0 0) 1 Try.underlying63 hi hz0 hz1 .i64 .i64 _ _ H rfl rfl ?_ ?_ ?_ ?_ ?_ ?_))
  · omega
  · omega
  · rw [hz2]; omega
  · unfold maxLen; omega
  · have := HA.out.size; have := HF1.out.size; omega
  · intro w2 hown hgrow
    have HF2 : Hid (Fr (fun _ => False) w0 w2) := HF1.out.trans ((Fr.refl _ _).grown hgrow (fun _ e _ => by cases e)) (fun _ _ h => h)
    have HO : Hid (OwnRR w2 w.heap.size w1.heap.size H 0 (fun y => rl (fun x => P x y) W) (List.replicate H (.slice none 0 0))) := ⟨by rw [← toList_madeCells_one]; exact hown, fun y hy => absurd hy (Nat.not_lt_zero _)⟩
    have HSZ : Hid (w.heap.size ≤ w0.heap.size ∧ w0.heap.size ≤ w1.heap.size) := ⟨HA.out.size, HF1.out.size⟩
    have HLW : Hid (w.heap.size < w1.heap.size) := seen_lt c0
    clear hown hgrow c0 c1 c2
    generalize w1.heap.size = g at *
    go_wp2_with fail
    go_loopg [6, 21] H (fun q yv i wr => ∃ (y : Nat) (vs : List Value), y + q = H ∧ i = .int .i64 y ∧ OwnRR wr w.heap.size g H y (fun y => rl (fun x => P x y) W) vs ∧ Fr (fun _ => False) w0 wr)
    case atStart => exact ⟨0, _, by omega, rfl, HO.out, HF2.out⟩
    case round =>
      obtain ⟨y, vs, hyq, rfl, hown, hfr⟩ := hrel
      have HOy : Hid (OwnRR wr w.heap.size g H y (fun y => rl (fun x => P x y) W) vs) := hown
      have HFr : Hid (Fr (fun _ => False) w0 wr) := hfr
      clear hown hfr
      by_cases hyH : y < H
      · have hdy : decide (y < H) = true := decide_eq_true hyH
        have hYS := HS.out y hyH
        obtain ⟨Y, hY⟩ : ∃ Y, Y = y * S := ⟨_, rfl⟩
        obtain ⟨Z, hZ⟩ : ∃ Z, Z = (y + 1) * S := ⟨_, rfl⟩
        have hZY : Z = Y + S := by rw [hY, hZ, Nat.add_mul, Nat.one_mul]
        have HR0 : Hid (∀ (w' : World) (c : Nat), Fr (fun _ => False) w w' → Calls Try.prog 55 #[.slice (some ⟨b0, off + Y, none⟩) S c, .int .i64 W] w' fun e w'' => ∃ rv, e = .returned rv ∧ w''.ownsRow w'.heap.size 100 2 rv (rl (fun x => P x y) W).length (runCells (rl (fun x => P x y) W)) ∧ Fr (fun _ => False) w' w'') := fun w' c hf => by
          have := HRO.out y w' c hyH hf
          rwa [← hY] at this
        rw [← hZ] at hYS
        have g1 : IntKind.i64.wrap ((y : Int) * (S : Int)) = (Y : Int) := by rw [IntKind.wrap_i64, ← Int.natCast_mul, ← hY]; omega
        have g2 : IntKind.i64.wrap ((y : Int) + 1) = (y : Int) + 1 := by rw [IntKind.wrap_i64]; omega
        have g3 : IntKind.i64.wrap (((y : Int) + 1) * (S : Int)) = (Z : Int) := by rw [show (y : Int) + 1 = ((y + 1 : Nat) : Int) by omega, IntKind.wrap_i64, ← Int.natCast_mul, ← hZ]; omega
        have g4 : (0 : Int) ≤ (Y : Int) := by omega
        have g5 : (Y : Int) ≤ (Z : Int) := by omega
        have g6 : (Z : Int) ≤ (cap : Int) := by omega
        have g7 : (0 : Int) ≤ (y : Int) := by omega
        have g8 : (y : Int) < (H : Int) := by omega
        have hZs : Z - Y = S := by omega
        have hS1 : 0 < S := HSP.out
        have hcY : ¬ cap = Y := by omega
        have hYZ : Y ≤ Z := by omega
        clear hY hZ hZY HRO hS1
        have HBY : Hid (∀ w', Fr (fun k => k = g) wr w' → w'.cell? ⟨w.heap.size, 0, none⟩ = some (.int .i64 W) ∧ w'.cell? ⟨w.heap.size, 2, none⟩ = some (.slice (some ⟨b0, off, none⟩) N cap)) := fun w' hf => by
          obtain ⟨k0, _, k2⟩ := HBX.out _ HFr.out
          have hne : w.heap.size ≠ g := by have := HSZ.out; have := seen_lt k0; have := HLW.out; omega
          rw [hf.cellEq (seen_lt k0) hne, hf.cellEq (seen_lt k2) hne]
          exact ⟨k0, k2⟩
        go_wp2_with fail
        go_region_held3 (fun w' => w'.cell? ⟨w.heap.size, 0, none⟩ = some (.int .i64 W) ∧ w'.cell? ⟨w.heap.size, 2, none⟩ = some (.slice (some ⟨b0, off, none⟩) N cap)) (exact HBY.out _ (by repeat (first | with_reducible exact Fr.refl _ _ | with_reducible refine Fr.drew ?_ | with_reducible refine Fr.slot ?_ _ | with_reducible exact hf4))) (first | (go_at_call 55; refine (HR0.out _ _ (HA.out.trans HFr.out.drew (fun _ _ h => h))).mono ?_; rintro e w4 ⟨rv, rfl, ho4, hf4'⟩; obtain ⟨ao4, c4, rfl⟩ := own_slice ho4; have hf4 : Fr (fun k => k = g) wr w4 := ((Fr.refl _ _).drew.trans hf4' (fun _ _ h => h.elim)); have hf5 : Fr (fun _ => False) wr w4 := ((Fr.refl _ _).drew.trans hf4' (fun _ _ h => h)); have HO4 : Hid (OwnRR w4 w.heap.size g H y (fun y => rl (fun x => P x y) W) vs) := HOy.out.kept hf5 (fun _ _ h => h); have HO5 : Hid (w4.ownsRow w.heap.size 100 2 (.slice ao4 (rl (fun x => P x y) W).length c4) (rl (fun x => P x y) W).length (runCells (rl (fun x => P x y) W))) := ownsRow_base ho4 (fun k hk => by have := (ho4.lt k hk).1; have := HFr.out.size; have := HSZ.out; have : wr.drew.heap.size = wr.heap.size := rfl; omega); have HF5 : Hid (Fr (fun _ => False) wr w4) := hf5; have k4 := HO4.out.own.frozenAt y; clear ho4 hf5; obtain ⟨u4, k5⟩ : ∃ u, w4.cell? ⟨g, y, none⟩ = some u := ⟨_, (HO4.out.own.cellAt y (by omega)).trans (List.getElem?_eq_getElem (by have := HO4.out.own.1; omega))⟩))
        have HO6 : Hid (OwnRR (w4.setCell ⟨g, y, none⟩ (.slice ao4 (rl (fun x => P x y) W).length c4)) w.heap.size g H (y + 1) (fun y => rl (fun x => P x y) W) (vs.set y (.slice ao4 (rl (fun x => P x y) W).length c4))) := HO4.out.put hyH HO5.out
        have HF6 : Hid (Fr (fun _ => False) w0 (w4.setCell ⟨g, y, none⟩ (.slice ao4 (rl (fun x => P x y) W).length c4))) := (HFr.out.trans HF5.out (fun _ _ h => h)).setCell (p := ⟨g, y, none⟩) (fun h => by have := HSZ.out; exact absurd h (by show ¬ g < w0.heap.size; omega)) _
        go_wp2_with fail
        go_roundg (H - (y + 1))
        case measure => omega
        case rel => exact ⟨y + 1, _, by omega, congrArg (Value.int .i64) (by omega), HO6.out, HF6.out⟩
      · have hye : y = H := by omega
        have hdy : decide (y < H) = false := decide_eq_false hyH
        have HOH : Hid (OwnRR wr w.heap.size g H H (fun y => rl (fun x => P x y) W) vs) := by have := HOy.out; rw [hye] at this; exact this
        go_wp2_with fail
        go_ret2
        exact ⟨g, vs, rfl, HOH.out, HA.out.trans HFr.out (fun _ _ h => h)⟩

end Go.Proofs.Ytgpciopoionmeaa
