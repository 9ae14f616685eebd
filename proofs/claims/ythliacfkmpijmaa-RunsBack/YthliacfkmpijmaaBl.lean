/- The law 'RunsBack'. -/
import Derived.Test.YthliacfkmpijmaaRb
import Derived.Test.YthliacfkmpijmaaWk
import Derived.Test.YthliacfkmpijmaaOp
import Derived.Deep.Cut
import Derived.Deep.CutRange
import Derived.Deep.Light
namespace Go.Proofs.Ythliacfkmpijmaa
open Go.RowKit

/-- What Back answers, in numbers. -/
def aX (W : Int) (L : List (List (Int × Int))) : Int := if okB W L then W else 0
def aY (W : Int) (L : List (List (Int × Int))) : Int := if okB W L then (L.length : Int) else 0
def aL (W : Int) (L : List (List (Int × Int))) : List Nat := if okB W L then render W.toNat L.length (pixL L) else []
def aE (W : Int) (L : List (List (Int × Int))) : Int := if okB W L then 0 else 80
theorem backP_ans {w w' : World} {W : Int} {L : List (List (Int × Int))} {e : Ending} (h : BackP w W L e w') : ∃ ao cap, e = .returned (.tuple #[.agg #[.int .i64 (aX W L), .int .i64 (aY W L), .slice ao (aL W L).length cap], .int .i64 (aE W L)]) ∧ Seen w' (.slice ao (aL W L).length cap) (aL W L) ∧ Fr (fun _ => False) w w' ∧ (∀ b off, ao = some ⟨b, off, none⟩ → w.heap.size ≤ b) := by
  obtain ⟨hy, hn, hf⟩ := h
  unfold aX aY aL aE
  cases hok : okB W L with
  | true =>
    obtain ⟨g, cap, he, hr, hg⟩ := hy hok
    have hs : sizeOK W L.length = true := by unfold okB at hok; simp only [Bool.and_eq_true] at hok; exact hok.1
    unfold sizeOK at hs
    obtain ⟨s1, s2, s3⟩ := of_decide_eq_true hs
    obtain ⟨V, rfl⟩ : ∃ V : Nat, W = V := ⟨W.toNat, by omega⟩
    obtain ⟨f1, f2, f3⟩ := size_facts (W := V) (H := L.length) (by omega) (by omega) (by rw [← Int.natCast_mul] at s3; omega)
    rw [Int.toNat_natCast] at he hr
    simp only [if_true, Int.toNat_natCast]
    refine ⟨some ⟨g, 0, none⟩, cap, ?_, ?_, hf, fun b off e => by cases e; exact hg⟩
    · rw [length_render]; exact he
    · rw [length_render]; exact hr.seen f3
  | false =>
    have he := hn hok
    refine ⟨none, 0, he, ?_, hf, fun b off e => by cases e⟩
    exact ⟨none, 0, rfl, by simp, fun h => absurd rfl h⟩

theorem blkSet3 {w : World} {o : Nat} {x y z : Value} {t : TypeId} (h : w.heap[o]? = some (.cells #[x, y, z] t (0, 0))) (a b c : Value) : (((w.setCell ⟨o, 0, none⟩ a).setCell ⟨o, 1, none⟩ b).setCell ⟨o, 2, none⟩ c).heap[o]? = some (.cells #[a, b, c] t (0, 0)) := set3_cells h a b c
theorem Seen.set3 {w : World} {o : Nat} {v : Value} {l : List Nat} (h : Seen w v l) (hb : ∀ b off n c, v = .slice (some ⟨b, off, none⟩) n c → l ≠ [] → b ≠ o) (x y z : Value) : Seen (((w.setCell ⟨o, 0, none⟩ x).setCell ⟨o, 1, none⟩ y).setCell ⟨o, 2, none⟩ z) v l := by
  obtain ⟨ao, cap, e, hl, hc⟩ := h
  refine ⟨ao, cap, e, hl, fun hn => ?_⟩
  obtain ⟨b, off, e2, hcc⟩ := hc hn
  refine ⟨b, off, e2, fun j hj => ?_⟩
  have hne : b ≠ o := hb b off _ _ (by rw [e, e2]) hn
  have f : Fr (fun k => k = o) w (((w.setCell ⟨o, 0, none⟩ x).setCell ⟨o, 1, none⟩ y).setCell ⟨o, 2, none⟩ z) := (((Fr.refl (fun k => k = o) w).setCell (p := ⟨o, 0, none⟩) (fun _ => rfl) _).setCell (p := ⟨o, 1, none⟩) (fun _ => rfl) _).setCell (p := ⟨o, 2, none⟩) (fun _ => rfl) _
  rw [f.cellEq (seen_lt (hcc j hj)) hne]
  exact hcc j hj

set_option maxRecDepth 100000 in
set_option maxHeartbeats 8000000 in
theorem backLaw_any (ao : Option Addr) (n cap : Nat) (V : Nat → Value) (L : Nat → List (List (Int × Int))) (X : Nat → Int) (w : World) (h : RwsAt w ao n V L X) :
    Calls Try.prog 4 #[.slice ao n cap] w fun e w' => e = .returned (.bool true) ∧ Fr (fun _ => False) w w' := by
  have hl := h.len
  have HC : Hid (∀ j, j < n → ∃ b off ao1 cap1, ao = some ⟨b, off, none⟩ ∧ (L j).length ≤ 9223372036854775807 ∧ (-9223372036854775808 ≤ X j ∧ X j ≤ 9223372036854775807) ∧ ∀ w', Fr (fun _ => False) w w' → w'.cell? ⟨b, off + j * 2, none⟩ = some (.slice ao1 (L j).length cap1) ∧ w'.cell? ⟨b, off + j * 2 + 1, none⟩ = some (.int .i64 (X j)) ∧ SeenRR w' (.slice ao1 (L j).length cap1) (L j)) := fun j hj => by
    obtain ⟨hs, hb⟩ := h.ok j hj
    have hs' := hs
    obtain ⟨ao1, cap1, e1, hl1, _⟩ := hs
    obtain ⟨b, off, e2, hc⟩ := h.cells (by omega)
    obtain ⟨k0, k1⟩ := hc j hj
    rw [e1] at k0 hs'
    exact ⟨b, off, ao1, cap1, e2, hl1, hb, fun w' f => ⟨by rw [f.cellEq (seen_lt k0) (fun h => h)]; exact k0, by rw [f.cellEq (seen_lt k1) (fun h => h)]; exact k1, hs'.kept f⟩⟩
  clear h
  go_enter Try.func4, Try.ntmps4
  go_wp2_with fail
  go_loopg [3, 4, 5, 6, 7] 6 (fun q i _ _ _ _ wr => ∃ j : Nat, j + q = 6 ∧ i = .int .i64 j ∧ Fr (fun _ => False) w wr)
  case atStart => exact ⟨0, by omega, rfl, Fr.refl _ _⟩
  case round =>
    obtain ⟨j, hjq, rfl, hfr⟩ := hrel
    have HFr : Hid (Fr (fun _ => False) w wr) := hfr
    clear hfr
    by_cases hjn : j < n ∧ j < 6
    · obtain ⟨hj1, hj2⟩ := hjn
      have d1 : decide (j < n) = true := decide_eq_true hj1
      have d2 : decide (j < 6) = true := decide_eq_true hj2
      obtain ⟨b, off, ao1, cap1, rfl, hl1, hX, hk⟩ := HC.out j hj1
      obtain ⟨k0, k1, _⟩ := hk wr HFr.out
      have HK : Hid (∀ w', Fr (fun _ => False) w w' → w'.cell? ⟨b, off + j * 2, none⟩ = some (.slice ao1 (L j).length cap1) ∧ w'.cell? ⟨b, off + j * 2 + 1, none⟩ = some (.int .i64 (X j))) := fun w' f => ⟨(hk w' f).1, (hk w' f).2.1⟩
      have HBK : Hid (∀ w', Fr (fun _ => False) w w' → Calls Try.prog 15 #[.slice ao1 (L j).length cap1, .int .i64 (X j)] w' fun e w'' => ∃ ao cap, e = .returned (.tuple #[.agg #[.int .i64 (aX (X j) (L j)), .int .i64 (aY (X j) (L j)), .slice ao (aL (X j) (L j)).length cap], .int .i64 (aE (X j) (L j))]) ∧ Seen w'' (.slice ao (aL (X j) (L j)).length cap) (aL (X j) (L j)) ∧ Fr (fun _ => False) w' w'' ∧ (∀ b off, ao = some ⟨b, off, none⟩ → w'.heap.size ≤ b)) := fun w' f => (back_any _ (L j) (X j) w' (hk w' f).2.2 hX).mono (fun e w'' hp => backP_ans hp)
      have HRB : Hid (∀ w', Fr (fun _ => False) w w' → Calls Try.prog 16 #[.slice ao1 (L j).length cap1, .int .i64 (X j)] w' fun e w'' => ∃ ao cap, e = .returned (.tuple #[.agg #[.int .i64 (aX (X j) (L j)), .int .i64 (aY (X j) (L j)), .slice ao (aL (X j) (L j)).length cap], .int .i64 (aE (X j) (L j))]) ∧ Seen w'' (.slice ao (aL (X j) (L j)).length cap) (aL (X j) (L j)) ∧ Fr (fun _ => False) w' w'' ∧ (∀ b off, ao = some ⟨b, off, none⟩ → w'.heap.size ≤ b)) := fun w' f => (rback_any _ (L j) (X j) w' (hk w' f).2.2 hX).mono (fun e w'' hp => backP_ans hp)
      have HZ : Hid (∀ w', Calls Try.prog 14 #[.int .i64 (X j), .int .i64 (L j).length] w' fun e w'' => e = .returned (.bool (sizeOK (X j) (L j).length)) ∧ w'' = w') := fun w' => zSize_any _ _ w' hX (by omega)
      have HSF : Hid (sizeOK (X j) (L j).length = true → IntKind.i64.wrap (X j + 64) = X j + 64 ∧ IntKind.i64.wrap ((X j + 64) * ((L j).length : Int)) = (X j + 64) * ((L j).length : Int) ∧ wrap64 ((X j + 64) * ((L j).length : Int)) = (X j + 64) * ((L j).length : Int)) := fun hs => by
        unfold sizeOK at hs
        obtain ⟨s1, s2, s3⟩ := of_decide_eq_true hs
        generalize ((L j).length : Int) = m at *
        generalize X j = x at *
        have e1 : (x + 64) * m = x * m + 64 * m := by rw [Int.add_mul]
        have e2 : m ≤ x * m := by have := Int.mul_le_mul_of_nonneg_right s1 (show (0 : Int) ≤ m by omega); omega
        have e3 : x ≤ x * m := by have := Int.mul_le_mul_of_nonneg_left s2 (show (0 : Int) ≤ x by omega); omega
        rw [IntKind.wrap_i64, IntKind.wrap_i64, e1]
        simp only [wrap64]
        omega
      clear hk
      obtain ⟨aa, HAa⟩ : ∃ l, Hid (l = aL (X j) (L j)) := ⟨_, rfl⟩
      rw [← HAa.out] at HBK HRB
      generalize aX (X j) (L j) = ax at *
      generalize aY (X j) (L j) = ay at *
      generalize aE (X j) (L j) = ae at *
      clear HAa
      generalize (L j).length = m at *
      generalize X j = x at *
      have haa : (ae != ae) = false := by simp
      go_upto_region 4 with (fail)
      cases hs : sizeOK x m with
      | false =>
          rw [hs] at HZ
          clear HSF
          go_quiet (first | (go_at_call 14; refine Calls.quiet_of_same (HZ.out _)))
          have HFB : Hid (Fr (fun _ => False) w (wr.drewN nq)) := HFr.out.drewN _
          clear k0 k1
          generalize wr.drewN nq = wB at *
          go_wp2_with fail
          have ksz : w.heap.size ≤ wB.heap.size := HFB.out.size
          go_cut [4, 5] from 46 to 59 (fun u e wc => ∃ o ao2 cap2, u = .pointer (some ⟨o, 0, none⟩) ∧ e = .int .i64 ae ∧ wB.heap.size ≤ o ∧ wc.heap[o]? = some (.cells #[.int .i64 ax, .int .i64 ay, .slice ao2 aa.length cap2] 25 (0, 0)) ∧ Seen wc (.slice ao2 aa.length cap2) aa ∧ Fr (fun _ => False) wB wc)
          case first =>
            obtain ⟨k0, k1⟩ := HK.out _ HFB.out
            go_region_held3 (fun w' => w'.cell? ⟨b, off + j * 2, none⟩ = some (.slice ao1 m cap1) ∧ w'.cell? ⟨b, off + j * 2 + 1, none⟩ = some (.int .i64 x)) (exact HK.out _ (by repeat (first | with_reducible refine Fr.setCell ?_ (fun hh => absurd hh (Nat.not_lt.2 ksz)) _ | with_reducible refine Fr.alloc ?_ _ | with_reducible refine Fr.drew ?_ | with_reducible exact HFB.out | with_reducible refine Fr.trans ?_ hf4 (fun _ _ hh => hh)))) (first | (go_at_call 15; refine (HBK.out _ (by repeat (first | with_reducible exact HFB.out | with_reducible refine Fr.alloc ?_ _ | with_reducible refine Fr.drew ?_))).mono ?_; rintro e w4 ⟨ao2, cap2, rfl, hs4, hf4, hg4⟩; (have hc4 := hf4.cells); (have hz4 := hf4.frozens); (have hn4 := hf4.size); (try have ku1 : wB.heap.size < w4.heap.size := by simp at hn4; omega)))
            · go_wp2_with fail
              go_meet
              go_light
              exact ⟨_, ao2, cap2, rfl, rfl, hn4, heap_alloc_new _ _, hs4.kept ((Fr.refl (fun _ => False) _).alloc _), ((Fr.refl _ _).drew.trans hf4 (fun _ _ h => h)).alloc _⟩
            · go_wp2_with fail
              go_meet
              go_light
              exact ⟨_, ao2, cap2, rfl, rfl, Nat.le_refl _, blkSet3 (blkOld hf4 (heap_alloc_new wB.drew _)) _ _ _, hs4.set3 (fun b' off' n' c' e _ => by simp only [Value.slice.injEq] at e; have := hg4 b' off' e.1; simp at this; omega) _ _ _, Fr.set3 (((Fr.refl _ _).drew.alloc _).trans hf4 (fun _ _ h => h)) (Nat.le_refl _) _ _ _⟩
          case rest =>
            obtain ⟨o, ao2, cap2, rfl, rfl, ho, hb, hs, hf⟩ := hcut
            have HFC : Hid (Fr (fun _ => False) w wc) := HFB.out.trans hf (fun _ _ h => h)
            have HBC : Hid (wc.heap[o]? = some (.cells #[.int .i64 ax, .int .i64 ay, .slice ao2 aa.length cap2] 25 (0, 0))) := hb
            have HSC : Hid (Seen wc (.slice ao2 aa.length cap2) aa) := hs
            clear hb hs hf ho ksz
            obtain ⟨wD, hwD⟩ : ∃ wD, wD = wc := ⟨_, rfl⟩
            rw [← hwD] at HFC HBC HSC ⊢
            clear hwD
            go_wp2_with fail
            have ksz : w.heap.size ≤ wD.heap.size := HFC.out.size
            go_cut [6, 7] from 60 to 73 (fun u e wc => ∃ o ao2 cap2, u = .pointer (some ⟨o, 0, none⟩) ∧ e = .int .i64 ae ∧ wD.heap.size ≤ o ∧ wc.heap[o]? = some (.cells #[.int .i64 ax, .int .i64 ay, .slice ao2 aa.length cap2] 25 (0, 0)) ∧ Seen wc (.slice ao2 aa.length cap2) aa ∧ Fr (fun _ => False) wD wc)
            case first =>
              obtain ⟨k0, k1⟩ := HK.out _ HFC.out
              go_region_held3 (fun w' => w'.cell? ⟨b, off + j * 2, none⟩ = some (.slice ao1 m cap1) ∧ w'.cell? ⟨b, off + j * 2 + 1, none⟩ = some (.int .i64 x)) (exact HK.out _ (by repeat (first | with_reducible refine Fr.setCell ?_ (fun hh => absurd hh (Nat.not_lt.2 ksz)) _ | with_reducible refine Fr.alloc ?_ _ | with_reducible refine Fr.drew ?_ | with_reducible exact HFC.out | with_reducible refine Fr.trans ?_ hf4 (fun _ _ hh => hh)))) (first | (go_at_call 16; refine (HRB.out _ (by repeat (first | with_reducible exact HFC.out | with_reducible refine Fr.alloc ?_ _ | with_reducible refine Fr.drew ?_))).mono ?_; rintro e w4 ⟨ao2, cap2, rfl, hs4, hf4, hg4⟩; (have hc4 := hf4.cells); (have hz4 := hf4.frozens); (have hn4 := hf4.size); (try have ku1 : wD.heap.size < w4.heap.size := by simp at hn4; omega)))
              · go_wp2_with fail
                go_meet
                go_light
                exact ⟨_, ao2, cap2, rfl, rfl, hn4, heap_alloc_new _ _, hs4.kept ((Fr.refl (fun _ => False) _).alloc _), ((Fr.refl _ _).drew.trans hf4 (fun _ _ h => h)).alloc _⟩
              · go_wp2_with fail
                go_meet
                go_light
                exact ⟨_, ao2, cap2, rfl, rfl, Nat.le_refl _, blkSet3 (blkOld hf4 (heap_alloc_new wD.drew _)) _ _ _, hs4.set3 (fun b' off' n' c' e _ => by simp only [Value.slice.injEq] at e; have := hg4 b' off' e.1; simp at this; omega) _ _ _, Fr.set3 (((Fr.refl _ _).drew.alloc _).trans hf4 (fun _ _ h => h)) (Nat.le_refl _) _ _ _⟩
            case rest =>
              obtain ⟨o2, ao3, cap3, rfl, rfl, ho2, hb2, hs2, hf2⟩ := hcut
              have HFD : Hid (Fr (fun _ => False) w wc) := HFC.out.trans hf2 (fun _ _ h => h)
              have HE : Hid (Calls Try.prog 17 #[.agg #[.int .i64 ax, .int .i64 ay, .slice ao2 aa.length cap2], .agg #[.int .i64 ax, .int .i64 ay, .slice ao3 aa.length cap3]] wc fun e w'' => e = .returned (.bool true) ∧ Fr (fun _ => False) wc w'') := eqBitmap_int ax ay _ _ aa wc (HSC.out.kept hf2) hs2
              obtain ⟨c0, c1, c2, _⟩ := cell_of_three (blkOld hf2 HBC.out)
              obtain ⟨e0, e1, e2, _⟩ := cell_of_three hb2
              clear hb2 hs2 hf2 ho2
              go_wp2_with fail
              refine HE.out.mono ?_
              rintro e w7 ⟨rfl, hf7⟩
              have HF7 : Hid (Fr (fun _ => False) w w7) := HFD.out.trans hf7 (fun _ _ h => h)
              clear hf7 c0 c1 c2 e0 e1 e2
              go_wp2_with fail
              go_roundg (6 - (j + 1))
              case measure => omega
              case rel => exact ⟨j + 1, by omega, congrArg (Value.int .i64) (by omega), HF7.out⟩
      | true =>
        obtain ⟨w1, w2, w3⟩ := HSF.out hs
        rw [hs] at HZ
        clear HSF
        obtain ⟨z, hzz⟩ : ∃ z, z = (x + 64) * (m : Int) := ⟨_, rfl⟩
        have w2' : IntKind.i64.wrap ((x + 64) * (m : Int)) = z := by rw [w2, hzz]
        have w3' : wrap64 ((x + 64) * (m : Int)) = z := by rw [w3, hzz]
        clear w2 w3 hzz
        by_cases hz : 60000 < z
        · have dz : decide (60000 < z) = true := decide_eq_true hz
          go_quiet (first | (go_at_call 14; refine Calls.quiet_of_same (HZ.out _)))
          have HFB : Hid (Fr (fun _ => False) w (wr.drewN nq)) := HFr.out.drewN _
          clear k0 k1
          go_wp2_with fail
          go_roundg (6 - (j + 1))
          case measure => omega
          case rel => exact ⟨j + 1, by omega, congrArg (Value.int .i64) (by omega), HFB.out⟩
        · have dz : decide (60000 < z) = false := decide_eq_false hz
          go_quiet (first | (go_at_call 14; refine Calls.quiet_of_same (HZ.out _)))
          have HFB : Hid (Fr (fun _ => False) w (wr.drewN nq)) := HFr.out.drewN _
          clear k0 k1 w1 w2' w3'
          generalize wr.drewN nq = wB at *
          go_wp2_with fail
          have ksz : w.heap.size ≤ wB.heap.size := HFB.out.size
          go_cut [4, 5] from 46 to 59 (fun u e wc => ∃ o ao2 cap2, u = .pointer (some ⟨o, 0, none⟩) ∧ e = .int .i64 ae ∧ wB.heap.size ≤ o ∧ wc.heap[o]? = some (.cells #[.int .i64 ax, .int .i64 ay, .slice ao2 aa.length cap2] 25 (0, 0)) ∧ Seen wc (.slice ao2 aa.length cap2) aa ∧ Fr (fun _ => False) wB wc)
          case first =>
            obtain ⟨k0, k1⟩ := HK.out _ HFB.out
            go_region_held3 (fun w' => w'.cell? ⟨b, off + j * 2, none⟩ = some (.slice ao1 m cap1) ∧ w'.cell? ⟨b, off + j * 2 + 1, none⟩ = some (.int .i64 x)) (exact HK.out _ (by repeat (first | with_reducible refine Fr.setCell ?_ (fun hh => absurd hh (Nat.not_lt.2 ksz)) _ | with_reducible refine Fr.alloc ?_ _ | with_reducible refine Fr.drew ?_ | with_reducible exact HFB.out | with_reducible refine Fr.trans ?_ hf4 (fun _ _ hh => hh)))) (first | (go_at_call 15; refine (HBK.out _ (by repeat (first | with_reducible exact HFB.out | with_reducible refine Fr.alloc ?_ _ | with_reducible refine Fr.drew ?_))).mono ?_; rintro e w4 ⟨ao2, cap2, rfl, hs4, hf4, hg4⟩; (have hc4 := hf4.cells); (have hz4 := hf4.frozens); (have hn4 := hf4.size); (try have ku1 : wB.heap.size < w4.heap.size := by simp at hn4; omega)))
            · go_wp2_with fail
              go_meet
              go_light
              exact ⟨_, ao2, cap2, rfl, rfl, hn4, heap_alloc_new _ _, hs4.kept ((Fr.refl (fun _ => False) _).alloc _), ((Fr.refl _ _).drew.trans hf4 (fun _ _ h => h)).alloc _⟩
            · go_wp2_with fail
              go_meet
              go_light
              exact ⟨_, ao2, cap2, rfl, rfl, Nat.le_refl _, blkSet3 (blkOld hf4 (heap_alloc_new wB.drew _)) _ _ _, hs4.set3 (fun b' off' n' c' e _ => by simp only [Value.slice.injEq] at e; have := hg4 b' off' e.1; simp at this; omega) _ _ _, Fr.set3 (((Fr.refl _ _).drew.alloc _).trans hf4 (fun _ _ h => h)) (Nat.le_refl _) _ _ _⟩
          case rest =>
            obtain ⟨o, ao2, cap2, rfl, rfl, ho, hb, hs, hf⟩ := hcut
            have HFC : Hid (Fr (fun _ => False) w wc) := HFB.out.trans hf (fun _ _ h => h)
            have HBC : Hid (wc.heap[o]? = some (.cells #[.int .i64 ax, .int .i64 ay, .slice ao2 aa.length cap2] 25 (0, 0))) := hb
            have HSC : Hid (Seen wc (.slice ao2 aa.length cap2) aa) := hs
            clear hb hs hf ho ksz
            obtain ⟨wD, hwD⟩ : ∃ wD, wD = wc := ⟨_, rfl⟩
            rw [← hwD] at HFC HBC HSC ⊢
            clear hwD
            go_wp2_with fail
            have ksz : w.heap.size ≤ wD.heap.size := HFC.out.size
            go_cut [6, 7] from 60 to 73 (fun u e wc => ∃ o ao2 cap2, u = .pointer (some ⟨o, 0, none⟩) ∧ e = .int .i64 ae ∧ wD.heap.size ≤ o ∧ wc.heap[o]? = some (.cells #[.int .i64 ax, .int .i64 ay, .slice ao2 aa.length cap2] 25 (0, 0)) ∧ Seen wc (.slice ao2 aa.length cap2) aa ∧ Fr (fun _ => False) wD wc)
            case first =>
              obtain ⟨k0, k1⟩ := HK.out _ HFC.out
              go_region_held3 (fun w' => w'.cell? ⟨b, off + j * 2, none⟩ = some (.slice ao1 m cap1) ∧ w'.cell? ⟨b, off + j * 2 + 1, none⟩ = some (.int .i64 x)) (exact HK.out _ (by repeat (first | with_reducible refine Fr.setCell ?_ (fun hh => absurd hh (Nat.not_lt.2 ksz)) _ | with_reducible refine Fr.alloc ?_ _ | with_reducible refine Fr.drew ?_ | with_reducible exact HFC.out | with_reducible refine Fr.trans ?_ hf4 (fun _ _ hh => hh)))) (first | (go_at_call 16; refine (HRB.out _ (by repeat (first | with_reducible exact HFC.out | with_reducible refine Fr.alloc ?_ _ | with_reducible refine Fr.drew ?_))).mono ?_; rintro e w4 ⟨ao2, cap2, rfl, hs4, hf4, hg4⟩; (have hc4 := hf4.cells); (have hz4 := hf4.frozens); (have hn4 := hf4.size); (try have ku1 : wD.heap.size < w4.heap.size := by simp at hn4; omega)))
              · go_wp2_with fail
                go_meet
                go_light
                exact ⟨_, ao2, cap2, rfl, rfl, hn4, heap_alloc_new _ _, hs4.kept ((Fr.refl (fun _ => False) _).alloc _), ((Fr.refl _ _).drew.trans hf4 (fun _ _ h => h)).alloc _⟩
              · go_wp2_with fail
                go_meet
                go_light
                exact ⟨_, ao2, cap2, rfl, rfl, Nat.le_refl _, blkSet3 (blkOld hf4 (heap_alloc_new wD.drew _)) _ _ _, hs4.set3 (fun b' off' n' c' e _ => by simp only [Value.slice.injEq] at e; have := hg4 b' off' e.1; simp at this; omega) _ _ _, Fr.set3 (((Fr.refl _ _).drew.alloc _).trans hf4 (fun _ _ h => h)) (Nat.le_refl _) _ _ _⟩
            case rest =>
              obtain ⟨o2, ao3, cap3, rfl, rfl, ho2, hb2, hs2, hf2⟩ := hcut
              have HFD : Hid (Fr (fun _ => False) w wc) := HFC.out.trans hf2 (fun _ _ h => h)
              have HE : Hid (Calls Try.prog 17 #[.agg #[.int .i64 ax, .int .i64 ay, .slice ao2 aa.length cap2], .agg #[.int .i64 ax, .int .i64 ay, .slice ao3 aa.length cap3]] wc fun e w'' => e = .returned (.bool true) ∧ Fr (fun _ => False) wc w'') := eqBitmap_int ax ay _ _ aa wc (HSC.out.kept hf2) hs2
              obtain ⟨c0, c1, c2, _⟩ := cell_of_three (blkOld hf2 HBC.out)
              obtain ⟨e0, e1, e2, _⟩ := cell_of_three hb2
              clear hb2 hs2 hf2 ho2
              go_wp2_with fail
              refine HE.out.mono ?_
              rintro e w7 ⟨rfl, hf7⟩
              have HF7 : Hid (Fr (fun _ => False) w w7) := HFD.out.trans hf7 (fun _ _ h => h)
              clear hf7 c0 c1 c2 e0 e1 e2
              go_wp2_with fail
              go_roundg (6 - (j + 1))
              case measure => omega
              case rel => exact ⟨j + 1, by omega, congrArg (Value.int .i64) (by omega), HF7.out⟩
    · by_cases hj1 : j < n
      · have d1 : decide (j < n) = true := decide_eq_true hj1
        have d2 : decide ((j : Int) < 6) = false := decide_eq_false (by omega)
        go_wp2_with fail
        refine (wakes_any _).mono ?_
        rintro e wz ⟨rfl, hfz⟩
        have HFz : Hid (Fr (fun _ => False) w wz) := HFr.out.trans hfz (fun _ _ h => h)
        clear hfz
        go_wp2_with fail
        go_ret
        exact ⟨rfl, HFz.out⟩
      · have d1 : decide (j < n) = false := decide_eq_false hj1
        go_wp2_with fail
        refine (wakes_any _).mono ?_
        rintro e wz ⟨rfl, hfz⟩
        have HFz : Hid (Fr (fun _ => False) w wz) := HFr.out.trans hfz (fun _ _ h => h)
        clear hfz
        go_wp2_with fail
        go_ret
        exact ⟨rfl, HFz.out⟩

end Go.Proofs.Ythliacfkmpijmaa
