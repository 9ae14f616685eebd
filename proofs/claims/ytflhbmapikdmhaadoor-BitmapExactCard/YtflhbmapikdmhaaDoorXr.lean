/- The reference's 'Mirror'. -/
import Derived.Test.YtflhbmapikdmhaaDoorXm
import Derived.Test.YtflhbmapikdmhaaDoorZGet
import Derived.Test.YtflhbmapikdmhaaDoorMirror
import Derived.Deep.RegionHeld3
namespace Go.Proofs.YtflhbmapikdmhaaDoor
set_option maxRecDepth 100000
open Go.RowKit

theorem three_all {w : World} {b : Nat} {x y z x' y' z' : Value} {t : TypeId} (h : w.heap[b]? = some (.cells #[x, y, z] t (0, 0))) :
    (((w.setCell ⟨b, 0, none⟩ x').setCell ⟨b, 1, none⟩ y').setCell ⟨b, 2, none⟩ z').heap[b]? = some (.cells #[x', y', z'] t (0, 0)) := by
  simp [World.setCell, Array.getElem?_modify, h]
/-- A variable of three cells of one's own that is written. -/
theorem Fr.own3 {S : Nat → Prop} {w w' : World} (f : Fr S w w') (b : Nat) (hb : w.heap.size ≤ b) (x y z : Value) : Fr S w (((w'.setCell ⟨b, 0, none⟩ x).setCell ⟨b, 1, none⟩ y).setCell ⟨b, 2, none⟩ z) :=
  f.trans (((((Fr.refl (fun k => k = b) w').setCell (p := ⟨b, 0, none⟩) (fun _ => rfl) x).setCell (p := ⟨b, 1, none⟩) (fun _ => rfl) y).setCell (p := ⟨b, 2, none⟩) (fun _ => rfl) z)) (fun i hi e => by omega)

set_option linter.unusedSimpArgs false in
set_option maxHeartbeats 40000000 in
theorem rmirror_any (W H : Nat) (v : Value) (P : Nat → Nat → Bool) (w : World) (hv : Seen w v (render W H P)) (h1 : 1 ≤ W) (h2 : 1 ≤ H) (h3 : W * H ≤ 1048576) :
    Calls Tryd.prog 15 #[.agg #[.int .i64 (W : Int), .int .i64 (H : Int), v]] w fun e w' => ∃ g, e = .returned (.agg #[.int .i64 (W : Int), .int .i64 (H : Int), .slice (some ⟨g, 0, none⟩) (H * stride W) (H * stride W)]) ∧ RowAt w' g (H * stride W) W H (mirPix W P) ∧ Fr (fun _ => False) w w' ∧ w.heap.size ≤ g := by
  obtain ⟨f1, f2, f3⟩ := size_facts h1 h2 h3
  have HSN : Hid (∀ w', Fr (fun _ => False) w w' → Seen w' v (render W H P)) := fun w' f => hv.kept f
  have HB : Hid (1 ≤ W ∧ 1 ≤ H ∧ W * H ≤ 1048576) := ⟨h1, h2, h3⟩
  have HBO : Hid (1 ≤ W ∧ 1 ≤ H ∧ W * H ≤ 1048576) := ⟨h1, h2, h3⟩
  obtain ⟨ao, cap, rfl, _, _⟩ := hv
  generalize (render W H P).length = n at *
  obtain ⟨s0, HS0⟩ : ∃ s0, Hid (w.heap.size = s0) := ⟨_, rfl⟩
  have HA : Hid (Fr (fun _ => False) w ((w.alloc (.cells #[.int .i64 (W : Int), .int .i64 (H : Int), .slice ao n cap] 39)).alloc (.cells #[.int .i64 0, .int .i64 0, .slice none 0 0] 39))) := ((Fr.refl _ _).alloc _).alloc _
  have HC : Hid (∀ w', Fr (fun _ => False) ((w.alloc (.cells #[.int .i64 (W : Int), .int .i64 (H : Int), .slice ao n cap] 39)).alloc (.cells #[.int .i64 0, .int .i64 0, .slice none 0 0] 39)) w' → (w'.cell? ⟨w.heap.size, 0, none⟩ = some (.int .i64 W) ∧ w'.cell? ⟨w.heap.size, 1, none⟩ = some (.int .i64 H) ∧ w'.cell? ⟨w.heap.size, 2, none⟩ = some (.slice ao n cap)) ∧ w'.heap[w.heap.size + 1]? = some (.cells #[.int .i64 0, .int .i64 0, .slice none 0 0] 39 (0, 0))) := fun w' hf => by
    have e1 : ((w.alloc (.cells #[.int .i64 (W : Int), .int .i64 (H : Int), .slice ao n cap] 39)).alloc (.cells #[.int .i64 0, .int .i64 0, .slice none 0 0] 39)).heap[w.heap.size]? = some (.cells #[.int .i64 (W : Int), .int .i64 (H : Int), .slice ao n cap] 39 (0, 0)) := by
      rw [((Fr.refl (fun _ => False) (w.alloc (.cells #[.int .i64 (W : Int), .int .i64 (H : Int), .slice ao n cap] 39))).alloc _).block _ (by simp) (fun h => h)]; exact heap_alloc_new _ _
    have e2 : ((w.alloc (.cells #[.int .i64 (W : Int), .int .i64 (H : Int), .slice ao n cap] 39)).alloc (.cells #[.int .i64 0, .int .i64 0, .slice none 0 0] 39)).heap[w.heap.size + 1]? = some (.cells #[.int .i64 0, .int .i64 0, .slice none 0 0] 39 (0, 0)) := by
      have := heap_alloc_new (w.alloc (.cells #[.int .i64 (W : Int), .int .i64 (H : Int), .slice ao n cap] 39)) (.cells #[.int .i64 0, .int .i64 0, .slice none 0 0] 39)
      rwa [World.size_alloc] at this
    obtain ⟨a0, a1, a2, _⟩ := cell_of_three ((hf.block _ (lt_of_block e1) (fun h => h)).trans e1)
    exact ⟨⟨a0, a1, a2⟩, (hf.block _ (lt_of_block e2) (fun h => h)).trans e2⟩
  clear h1 h2 h3 f3
  go_enter Tryd.func15, Tryd.ntmps15
  obtain ⟨⟨c0, c1, c2⟩, _⟩ := HC.out _ (Fr.refl _ _)
  go_wp2_with fail
  generalize (w.alloc (.cells #[.int .i64 (W : Int), .int .i64 (H : Int), .slice ao n cap] 39)).alloc (.cells #[.int .i64 0, .int .i64 0, .slice none 0 0] 39) = w0 at *
  refine (zwhite_any W H _ HBO.out.1 HBO.out.2.1 HBO.out.2.2).mono ?_
  rintro e w2 ⟨g, rfl, hr2, hf2, hg2⟩
  have HR2 : Hid (RowAt w2 g (H * stride W) W H (fun _ _ => false)) := hr2
  have HF2 : Hid (Fr (fun _ => False) w0 w2) := hf2
  have HG2 : Hid (w0.heap.size ≤ g ∧ g < w2.heap.size) := ⟨hg2, hr2.lt⟩
  clear hr2 hf2 hg2 c0 c1 c2
  rw [HS0.out] at HC
  rw [HS0.out]
  obtain ⟨N, HN⟩ : ∃ N, Hid (H * stride W = N) := ⟨_, rfl⟩
  rw [HN.out] at HR2
  rw [HN.out]
  go_wp2_with fail
  obtain ⟨w3, hw3⟩ : ∃ w3, w3 = w2.alloc (.cells #[.int .i64 W, .int .i64 H, .slice (some ⟨g, 0, none⟩) N N] 39) := ⟨_, rfl⟩
  have HR3 : Hid (RowAt w3 g N W H (fun _ _ => false)) := by rw [hw3]; exact HR2.out.kept ((Fr.refl (fun _ => False) _).alloc _) (fun h => h)
  have HF3 : Hid (Fr (fun _ => False) w0 w3) := by rw [hw3]; exact HF2.out.alloc _
  have HFA : Hid (∀ w', Fr (fun k => k = g) w3 w' → Fr (fun _ => False) w0 w') := fun w' f => HF3.out.trans f (fun i hi e => by have := HG2.out; omega)
  have HFW : Hid (∀ w', Fr (fun k => k = g) w3 w' → Fr (fun _ => False) w w') := fun w' f => HA.out.trans (HFA.out w' f) (fun _ _ h => h)
  obtain ⟨tb, HTB⟩ : ∃ tb, Hid (w2.heap.size = tb) := ⟨_, rfl⟩
  have HK : Hid (∀ w', Fr (fun k => k = g) w3 w' → w'.cell? ⟨s0, 0, none⟩ = some (.int .i64 W) ∧ w'.cell? ⟨s0, 1, none⟩ = some (.int .i64 H) ∧ w'.cell? ⟨s0, 2, none⟩ = some (.slice ao n cap) ∧ w'.cell? ⟨tb, 0, none⟩ = some (.int .i64 W) ∧ w'.cell? ⟨tb, 1, none⟩ = some (.int .i64 H) ∧ w'.cell? ⟨tb, 2, none⟩ = some (.slice (some ⟨g, 0, none⟩) N N)) := fun w' f => by
    have hg := HG2.out
    have hsz : w3.heap.size = w2.heap.size + 1 := by rw [hw3, World.size_alloc]
    have hb : w3.heap[w2.heap.size]? = some (.cells #[.int .i64 W, .int .i64 H, .slice (some ⟨g, 0, none⟩) N N] 39 (0, 0)) := by rw [hw3]; exact heap_alloc_new _ _
    obtain ⟨z0, z1, z2, _⟩ := cell_of_three ((f.block _ (by omega) (by omega)).trans hb)
    rw [HTB.out] at z0 z1 z2
    obtain ⟨⟨a0, a1, a2⟩, _⟩ := HC.out w' (HFA.out w' f)
    exact ⟨a0, a1, a2, z0, z1, z2⟩
  have HSZ : Hid (w.heap.size ≤ g ∧ w.heap.size + 1 < g ∧ g < w3.heap.size) := by
    have h5 := lt_of_block (HC.out w0 (Fr.refl _ _)).2
    have hg := HG2.out
    have h7 := HS0.out
    refine ⟨?_, ?_, HR3.out.lt⟩ <;> omega
  rw [← hw3, HTB.out]
  clear hw3 HR2 HF2
  go_loopw [4, 5] (fun j _ wr => ∃ J : Nat, J ≤ H ∧ j = .int .i64 J ∧ RowAt wr g N W H (setG (mirPix W P) 0 0 0 (W : Int) 0 (J : Int) 0 (fun _ _ => false)) ∧ Fr (fun k => k = g) w3 wr) (fun j _ _ => H - (intOf j).toNat)
  case atStart => exact ⟨0, Nat.zero_le _, rfl, by rw [show ((0 : Nat) : Int) = 0 from rfl, setG_first]; exact HR3.out, Fr.refl _ _⟩
  case round =>
    obtain ⟨J, hJ, rfl, hrow, hfr⟩ := hrel
    have HRo : Hid (RowAt wr g N W H (setG (mirPix W P) 0 0 0 (W : Int) 0 (J : Int) 0 (fun _ _ => false))) := hrow
    have HFr : Hid (Fr (fun k => k = g) w3 wr) := hfr
    obtain ⟨c0, c1, c2, c3, c4, c5⟩ := HK.out _ hfr
    clear hrow hfr
    by_cases hJH : J < H
    · have hdJ : decide (J < H) = true := decide_eq_true hJH
      go_wp2_with fail
      go_loopw [5] (fun i wr => ∃ I : Nat, I ≤ W ∧ i = .int .i64 I ∧ RowAt wr g N W H (setG (mirPix W P) 0 0 0 (W : Int) 0 (J : Int) (I : Int) (fun _ _ => false)) ∧ Fr (fun k => k = g) w3 wr) (fun i _ => W - (intOf i).toNat)
      case atStart => exact ⟨0, Nat.zero_le _, rfl, HRo.out, HFr.out⟩
      case round =>
        obtain ⟨I, hI, rfl, hrow, hfr⟩ := hrel
        have HRi : Hid (RowAt wr g N W H (setG (mirPix W P) 0 0 0 (W : Int) 0 (J : Int) (I : Int) (fun _ _ => false))) := hrow
        have HFi : Hid (Fr (fun k => k = g) w3 wr) := hfr
        clear c0 c1 c2 c3 c4 c5
        obtain ⟨c0, c1, c2, c3, c4, c5⟩ := HK.out _ hfr
        clear hrow hfr
        by_cases hIW : I < W
        · have hdI : decide (I < W) = true := decide_eq_true hIW
          have hwx : W - 1 - I < W := by omega
          have hws : IntKind.i64.wrap ((W : Int) - 1) = (W : Int) - 1 := by rw [IntKind.wrap_i64]; omega
          have hwd : IntKind.i64.wrap ((W : Int) - 1 - (I : Int)) = ((W - 1 - I : Nat) : Int) := by rw [IntKind.wrap_i64]; omega
          have HG1 : Hid (∀ w', Fr (fun _ => False) wr w' → Calls Tryd.prog 21 #[.agg #[.int .i64 (W : Int), .int .i64 (H : Int), .slice ao n cap], .int .i64 ((W - 1 - I : Nat) : Int), .int .i64 (J : Int)] w' fun e w'' => e = .returned (.int .i64 (((mirPix W P) I J).toNat : Nat)) ∧ Fr (fun _ => False) w' w'') := fun w' hf => by
            have h1 := HB.out
            have h2 := HSN.out w' (HFW.out w' (HFi.out.trans hf (fun _ _ h => h.elim)))
            exact zget_in W H _ P (W - 1 - I) J w' h2 h1.1 h1.2.1 h1.2.2 hwx hJH
          have HPu : Hid (∀ w', Fr (fun _ => False) wr w' → Calls Tryd.prog 35 #[.agg #[.int .i64 (W : Int), .int .i64 (H : Int), .slice (some ⟨g, 0, none⟩) N N], .int .i64 (I : Int), .int .i64 (J : Int), .int .i64 ((((mirPix W P) I J).toNat : Nat) : Int)] w' fun e w'' => e = .returned (.tuple #[]) ∧ RowAt w'' g N W H (setG (mirPix W P) 0 0 0 (W : Int) 0 (J : Int) ((I : Int) + 1) (fun _ _ => false)) ∧ Fr (fun k => k = g) w' w'') := fun w' hf => by
            have h1 := HBO.out
            rw [setG_next (A0 := I) (E0 := J) (by omega) (by omega) (by omega) (by omega) (by omega)]
            have h4 := zput_any W H g N (setG (mirPix W P) 0 0 0 (W : Int) 0 (J : Int) (I : Int) (fun _ _ => false)) I J ((mirPix W P) I J) w' (HRi.out.kept hf (fun h => h)) h1.1 h1.2.1 h1.2.2 hIW hJH
            rw [HN.out] at h4
            exact h4
          generalize ((mirPix W P) I J).toNat = pn at *
          have HCI : Hid (∀ w', Fr (fun k => k = g) wr w' → w'.cell? ⟨s0, 0, none⟩ = some (.int .i64 W) ∧ w'.cell? ⟨s0, 1, none⟩ = some (.int .i64 H) ∧ w'.cell? ⟨s0, 2, none⟩ = some (.slice ao n cap) ∧ w'.cell? ⟨tb, 0, none⟩ = some (.int .i64 W) ∧ w'.cell? ⟨tb, 1, none⟩ = some (.int .i64 H) ∧ w'.cell? ⟨tb, 2, none⟩ = some (.slice (some ⟨g, 0, none⟩) N N)) := fun w' hf => HK.out _ (HFi.out.trans hf (fun _ _ h => h))
          go_wp2_with fail
          clear hdJ hdI
          go_region_held3 (fun w' => w'.cell? ⟨s0, 0, none⟩ = some (.int .i64 W) ∧ w'.cell? ⟨s0, 1, none⟩ = some (.int .i64 H) ∧ w'.cell? ⟨s0, 2, none⟩ = some (.slice ao n cap) ∧ w'.cell? ⟨tb, 0, none⟩ = some (.int .i64 W) ∧ w'.cell? ⟨tb, 1, none⟩ = some (.int .i64 H) ∧ w'.cell? ⟨tb, 2, none⟩ = some (.slice (some ⟨g, 0, none⟩) N N)) (exact HCI.out _ (by repeat (first | with_reducible exact Fr.refl _ _ | with_reducible refine Fr.drew ?_ | with_reducible refine Fr.trans ?_ hf9 (fun _ _ hh => hh) | with_reducible refine Fr.trans ?_ hf7 (fun _ _ hh => hh.elim)))) (first | (go_at_call 21; refine (HG1.out _ (by repeat (first | with_reducible exact Fr.refl _ _ | with_reducible refine Fr.drew ?_))).mono ?_; rintro e w7 ⟨rfl, hf7⟩) | (go_at_call 35; refine (HPu.out _ (by repeat (first | with_reducible exact Fr.refl _ _ | with_reducible refine Fr.drew ?_ | with_reducible refine Fr.trans ?_ hf7 (fun _ _ hh => hh)))).mono ?_; rintro e w9 ⟨rfl, hr9, hf9⟩))
          all_goals go_wp2_with fail
          all_goals go_roundw
          all_goals first
            | (refine ⟨I + 1, by omega, congrArg (Value.int .i64) (by omega), hr9, HFi.out.trans ?_ (fun _ _ hh => hh)⟩; repeat (first | with_reducible exact Fr.refl _ _ | with_reducible refine Fr.drew ?_ | with_reducible refine Fr.trans ?_ hf9 (fun _ _ hh => hh) | with_reducible refine Fr.trans ?_ hf7 (fun _ _ hh => hh.elim)))
            | (simp [intOf]; omega)
        · obtain rfl : I = W := by omega
          have hdI : decide (I < I) = false := decide_eq_false (by omega)
          go_wp2_with fail
          go_roundw
          case rel => exact ⟨J + 1, by omega, congrArg (Value.int .i64) (by omega), by rw [show ((J + 1 : Nat) : Int) = (J : Int) + 1 from by omega, ← setG_row (i := (I : Int)) (by omega)]; exact HRi.out, HFi.out⟩
          case measure => simp [intOf]; omega
    · obtain rfl : H = J := by omega
      have hdJ : decide (H < H) = false := decide_eq_false (by omega)
      have hbk := (HC.out _ (HFA.out _ HFr.out)).2
      obtain ⟨z0, z1, z2, zf⟩ := cell_of_three hbk
      have y0 := zf 0
      have y1 := zf 1
      have y2 := zf 2
      have hb5 := three_all (x' := .int .i64 (W : Int)) (y' := .int .i64 (H : Int)) (z' := .slice (some ⟨g, 0, none⟩) N N) hbk
      have HF5 : Hid (Fr (fun _ => False) w (((wr.setCell ⟨s0 + 1, 0, none⟩ (.int .i64 (W : Int))).setCell ⟨s0 + 1, 1, none⟩ (.int .i64 (H : Int))).setCell ⟨s0 + 1, 2, none⟩ (.slice (some ⟨g, 0, none⟩) N N))) := Fr.own3 (HFW.out _ HFr.out) _ (by have := HS0.out; omega) _ _ _
      have HX5 : Hid (RowAt (((wr.setCell ⟨s0 + 1, 0, none⟩ (.int .i64 (W : Int))).setCell ⟨s0 + 1, 1, none⟩ (.int .i64 (H : Int))).setCell ⟨s0 + 1, 2, none⟩ (.slice (some ⟨g, 0, none⟩) N N)) g N W H (mirPix W P)) := (HRo.out.pixO (setG_all _ W H _)).kept ((((Fr.refl (fun k => k = s0 + 1) _).setCell (p := ⟨s0 + 1, 0, none⟩) (fun _ => rfl) _).setCell (p := ⟨s0 + 1, 1, none⟩) (fun _ => rfl) _).setCell (p := ⟨s0 + 1, 2, none⟩) (fun _ => rfl) _) (fun e => by have := HSZ.out; have := HS0.out; omega)
      clear zf hbk
      go_wp2_with fail
      generalize ((wr.setCell ⟨s0 + 1, 0, none⟩ (.int .i64 (W : Int))).setCell ⟨s0 + 1, 1, none⟩ (.int .i64 (H : Int))).setCell ⟨s0 + 1, 2, none⟩ (.slice (some ⟨g, 0, none⟩) N N) = w5 at hb5 HF5 HX5 ⊢
      obtain ⟨m0, m1, m2, _⟩ := cell_of_three hb5
      (try simp only [Exit.inBlock, Exit.then])
      refine bodyPost_ret (v := .agg #[.int .i64 (W : Int), .int .i64 (H : Int), .slice (some ⟨g, 0, none⟩) N N]) (by simp [results, Tryd.results15, go_sem, m0, m1, m2]) rfl ?_
      exact ⟨g, by rw [HN.out], by rw [HN.out]; exact HX5.out, HF5.out, by have := HSZ.out; have := HS0.out; omega⟩
end Go.Proofs.YtflhbmapikdmhaaDoor
