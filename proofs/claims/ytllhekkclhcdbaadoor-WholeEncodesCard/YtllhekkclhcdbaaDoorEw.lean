/- 'EqWholes' of equal numbers; 'wakes'. -/
import Derived.Test.YtllhekkclhcdbaaDoorWn
import Derived.Great.BuildSlice
import Derived.Deep.RegionHeld3
namespace Go.Proofs.YtllhekkclhcdbaaDoor
open Go.RowKit

set_option maxRecDepth 100000 in
set_option maxHeartbeats 2000000 in
set_option linter.unusedSimpArgs false in
theorem eqw_same (w : World) (ao bo : Option Addr) (n c1 c2 : Nat) (V : Nat → Int) (N : Nat → Bool) (ha : NumsAt w ao n V N) (hb : NumsAt w bo n V N) (hn : n ≤ 200) :
    Calls Tryd.prog 13 #[.slice ao n c1, .slice bo n c2] w fun e w' => e = .returned (.bool true) ∧ ∃ q, w' = w.drewN q := by
  have HA : Hid (NumsAt w ao n V N) := ha
  have HB : Hid (NumsAt w bo n V N) := hb
  have HN : Hid (n ≤ 200) := hn
  have hne : ((n : Int) != (n : Int)) = false := by simp
  clear ha hb hn
  go_enter Tryd.func13, Tryd.ntmps13
  go_wp2_with fail
  go_loopw [5] (fun p wr => ∃ i q : Nat, i ≤ n ∧ p = .int .i64 (i : Int) ∧ wr = w.drewN q)
    (fun p _ => ((n : Int) - intOf p).toNat)
  case atStart => exact ⟨0, 0, Nat.zero_le _, rfl, rfl⟩
  case round =>
    obtain ⟨i, q, hi, rfl, rfl⟩ := hrel
    by_cases hin : i < n
    · have hdec : decide (i < n) = true := decide_eq_true hin
      obtain ⟨b, off, eao, hc⟩ := HA.out.at_ (by omega)
      obtain ⟨b2, off2, ebo, hc2⟩ := HB.out.at_ (by omega)
      obtain ⟨x0, x1⟩ := hc i hin
      obtain ⟨y0, y1⟩ := hc2 i hin
      obtain ⟨v, ev⟩ : ∃ v, V i = v := ⟨_, rfl⟩
      obtain ⟨nn, en⟩ : ∃ nn, N i = nn := ⟨_, rfl⟩
      rw [ev] at x0 y0
      rw [en] at x1 y1
      have z0 : (w.drewN q).cell? ⟨b, off + i * 2, none⟩ = some (.int .i64 v) := x0
      have z1 : (w.drewN q).cell? ⟨b, off + i * 2 + 1, none⟩ = some (.bool nn) := x1
      have t0 : (w.drewN q).cell? ⟨b2, off2 + i * 2, none⟩ = some (.int .i64 v) := y0
      have t1 : (w.drewN q).cell? ⟨b2, off2 + i * 2 + 1, none⟩ = some (.bool nn) := y1
      have k2 : IntKind.i64.wrap ((i : Int) + 1) = (i : Int) + 1 := by have := HN.out; rw [IntKind.wrap_i64]; omega
      subst eao; subst ebo
      clear hc hc2 ev en x0 x1 y0 y1
      go_wp2_with fail
      refine wp_region_noPanic (wp_region_held_drew (S := fun W => W.cell? ⟨b, off + i * 2, none⟩ = some (.int .i64 v) ∧ W.cell? ⟨b, off + i * 2 + 1, none⟩ = some (.bool nn) ∧ W.cell? ⟨b2, off2 + i * 2, none⟩ = some (.int .i64 v) ∧ W.cell? ⟨b2, off2 + i * 2 + 1, none⟩ = some (.bool nn)) (by kernel_rfl) ⟨z0, z1, t0, t1⟩ (fun hHeld => ?_))
      refine wpAnyH_take (i := 0) (oi := _) (v := ?vv0) rfl (by kernel_rfl) (by kernel_rfl) (by kernel_rfl) (fun _ _ _ h => h) (Or.inl ⟨by kernel_rfl, ?hy0⟩) (by assumption) ?_
      case hy0 => (intro w hSw; (try dsimp only at hSw); obtain ⟨s1, s2, s3, s4⟩ := hSw; go_simp; all_goals (with_reducible rfl))
      (try simp only [Act.put, List.setIfInBounds_toArray, List.set_cons_zero, List.set_cons_succ])
      refine wpAnyH_take (i := 1) (oi := _) (v := ?vv1) rfl (by kernel_rfl) (by kernel_rfl) (by kernel_rfl) (fun _ _ _ h => h) (Or.inl ⟨by kernel_rfl, ?hy1⟩) (by assumption) ?_
      case hy1 => (intro w hSw; (try dsimp only at hSw); obtain ⟨s1, s2, s3, s4⟩ := hSw; go_simp; all_goals (with_reducible rfl))
      (try simp only [Act.put, List.setIfInBounds_toArray, List.set_cons_zero, List.set_cons_succ])
      refine wpAnyH_take (i := 2) (oi := _) (v := ?vv2) rfl (by kernel_rfl) (by kernel_rfl) (by kernel_rfl) (fun _ _ _ h => h) (Or.inl ⟨by kernel_rfl, ?hy2⟩) (by assumption) ?_
      case hy2 => (intro w hSw; (try dsimp only at hSw); obtain ⟨s1, s2, s3, s4⟩ := hSw; go_simp; all_goals (with_reducible rfl))
      (try simp only [Act.put, List.setIfInBounds_toArray, List.set_cons_zero, List.set_cons_succ])
      refine wpAnyH_take (i := 3) (oi := _) (v := ?vv3) rfl (by kernel_rfl) (by kernel_rfl) (by kernel_rfl) (fun _ _ _ h => h) (Or.inl ⟨by kernel_rfl, ?hy3⟩) (by assumption) ?_
      case hy3 => (intro w hSw; (try dsimp only at hSw); obtain ⟨s1, s2, s3, s4⟩ := hSw; go_simp; all_goals (with_reducible rfl))
      (try simp only [Act.put, List.setIfInBounds_toArray, List.set_cons_zero, List.set_cons_succ])
      refine wpAnyH_take (i := 4) (oi := _) (v := ?vv4) rfl (by kernel_rfl) (by kernel_rfl) (by kernel_rfl) (fun _ _ _ h => h) (Or.inl ⟨by kernel_rfl, ?hy4⟩) (by assumption) ?_
      case hy4 => (intro w hSw; (try dsimp only at hSw); obtain ⟨s1, s2, s3, s4⟩ := hSw; go_simp; all_goals (with_reducible rfl))
      (try simp only [Act.put, List.setIfInBounds_toArray, List.set_cons_zero, List.set_cons_succ])
      refine wpAnyH_take (i := 5) (oi := _) (v := ?vv5) rfl (by kernel_rfl) (by kernel_rfl) (by kernel_rfl) (fun _ _ _ h => h) (Or.inl ⟨by kernel_rfl, ?hy5⟩) (by assumption) ?_
      case hy5 => (intro w hSw; (try dsimp only at hSw); obtain ⟨s1, s2, s3, s4⟩ := hSw; go_simp; all_goals (with_reducible rfl))
      (try simp only [Act.put, List.setIfInBounds_toArray, List.set_cons_zero, List.set_cons_succ])
      refine wpAnyH_take (i := 6) (oi := _) (v := ?vv6) rfl (by kernel_rfl) (by kernel_rfl) (by kernel_rfl) (fun _ _ _ h => h) (Or.inl ⟨by kernel_rfl, ?hy6⟩) (by assumption) ?_
      case hy6 => (intro w hSw; (try dsimp only at hSw); obtain ⟨s1, s2, s3, s4⟩ := hSw; go_simp; all_goals (with_reducible rfl))
      (try simp only [Act.put, List.setIfInBounds_toArray, List.set_cons_zero, List.set_cons_succ])
      refine wpAnyH_take (i := 7) (oi := _) (v := ?vv7) rfl (by kernel_rfl) (by kernel_rfl) (by kernel_rfl) (fun _ _ _ h => h) (Or.inl ⟨by kernel_rfl, ?hy7⟩) (by assumption) ?_
      case hy7 => (intro w hSw; (try dsimp only at hSw); obtain ⟨s1, s2, s3, s4⟩ := hSw; go_simp; all_goals (with_reducible rfl))
      (try simp only [Act.put, List.setIfInBounds_toArray, List.set_cons_zero, List.set_cons_succ])
      refine wpAnyH_take (i := 8) (oi := _) (v := ?vv8) rfl (by kernel_rfl) (by kernel_rfl) (by kernel_rfl) (fun _ _ _ h => h) (Or.inl ⟨by kernel_rfl, ?hy8⟩) (by assumption) ?_
      case hy8 => (intro w hSw; (try dsimp only at hSw); obtain ⟨s1, s2, s3, s4⟩ := hSw; go_simp; all_goals (with_reducible rfl))
      (try simp only [Act.put, List.setIfInBounds_toArray, List.set_cons_zero, List.set_cons_succ])
      refine wpAnyH_done (by kernel_rfl) ?_ _
      refine NoPanic.normal ?_
      simp only [List.getElem_toArray, List.getElem_cons_succ, List.getElem_cons_zero, List.setIfInBounds_toArray, List.set_cons_zero, List.set_cons_succ]
      go_wp2_with fail
      go_roundw
      case rel => exact ⟨i + 1, q + 1, by omega, by push_cast; rfl, rfl⟩
      case measure => simp [intOf]; omega
    · obtain rfl : i = n := by omega
      have hdec : decide (i < i) = false := decide_eq_false (by omega)
      go_wp2_with fail
      go_ret
      exact ⟨rfl, q, rfl⟩
theorem NumsAt.congr {w : World} {ao : Option Addr} {n : Nat} {V V' : Nat → Int} {N N' : Nat → Bool} (h : NumsAt w ao n V N) (e : ∀ j, j < n → V j = V' j ∧ N j = N' j) : NumsAt w ao n V' N' := by
  refine ⟨h.lim, fun hn => ?_⟩
  obtain ⟨b, off, e1, hc⟩ := h.at_ hn
  exact ⟨b, off, e1, fun j hj => by rw [← (e j hj).1, ← (e j hj).2]; exact hc j hj⟩
theorem codedB_lt {n : Nat} (h1 : 1 ≤ n) (h2 : n ≤ 131072) {L : List (Int × Nat)} (hm : L.length ≤ 16777216) : ∀ y ∈ codedB n L, y < 256 := by
  obtain ⟨ok, _, _⟩ := runL_ok (newP_ok (n := n) (by omega) h2) L (by show 0 + _ ≤ _; omega)
  have hc := (flush_cw ok.ok.cw).2
  intro y hy
  unfold codedB flushP at hy
  split at hy
  · exact hc.blt y (List.mem_of_mem_drop hy)
  · have := List.mem_of_mem_drop hy
    rcases List.mem_append.1 this with h | h
    · exact hc.blt y h
    · simp at h; rw [h]; exact hc.llt

def wkV (j : Nat) : Int := [0, -1, 0, 5000, 84].getD j 0
def wkN (j : Nat) : Bool := [false, false, true, false, false].getD j false
theorem wk_may : ∀ j, j < 5 → mayP (wkV j) (wkN j) = true := by decide
theorem wk_pos : 0 < (codedB 512 (numsL wkV wkN 5)).length := by decide +kernel

set_option maxRecDepth 100000 in
set_option maxHeartbeats 2000000 in
theorem wakes5_any (w : World) (hr : RowsAt w) : Calls Tryd.prog 9 #[] w fun e w' => e = .returned (.bool true) ∧ Fr (fun _ => False) w w' := by
  have HR : Hid (RowsAt w) := hr
  clear hr
  have hb := heap_alloc_new w (.cells #[.int .i64 0, .bool false, .int .i64 (-1), .bool false, .int .i64 0, .bool true, .int .i64 5000, .bool false, .int .i64 84, .bool false] 46)
  have hna : NumsAt (w.alloc (.cells #[.int .i64 0, .bool false, .int .i64 (-1), .bool false, .int .i64 0, .bool true, .int .i64 5000, .bool false, .int .i64 84, .bool false] 46)) (some ⟨w.heap.size, 0, none⟩) 5 wkV wkN := by
    refine ⟨by omega, fun _ => ⟨w.heap.size, 0, rfl, fun j hj => ?_⟩⟩
    rcases (by omega : j = 0 ∨ j = 1 ∨ j = 2 ∨ j = 3 ∨ j = 4) with rfl | rfl | rfl | rfl | rfl <;> (constructor <;> (simp only [World.cell?, hb]; rfl))
  have HNA : Hid (NumsAt (w.alloc (.cells #[.int .i64 0, .bool false, .int .i64 (-1), .bool false, .int .i64 0, .bool true, .int .i64 5000, .bool false, .int .i64 84, .bool false] 46)) (some ⟨w.heap.size, 0, none⟩) 5 wkV wkN) := hna
  have F0 : Hid (Fr (fun _ => False) w (w.alloc (.cells #[.int .i64 0, .bool false, .int .i64 (-1), .bool false, .int .i64 0, .bool true, .int .i64 5000, .bool false, .int .i64 84, .bool false] 46))) := (Fr.refl _ _).alloc _
  clear hb hna
  go_enter Tryd.func9, Tryd.ntmps9
  go_wp2_with fail
  refine (encode_any _ _ 5 5 wkV wkN HNA.out (by omega) (HR.out.kept F0.out (fun h => h))).mono ?_
  rintro e w1 ⟨f1, (⟨hall, g, k, c, rfl, hse, hg⟩ | ⟨⟨j, hj, hm⟩, _⟩)⟩
  rotate_left
  · exact absurd (wk_may j hj) (by rw [hm]; decide)
  have F1 : Hid (Fr (fun _ => False) w w1) := Fr.trans F0.out f1 (fun _ _ h => h)
  have HN1 : Hid (NumsAt w1 (some ⟨w.heap.size, 0, none⟩) 5 wkV wkN) := HNA.out.kept f1
  have HSe : Hid (SeenAt w1 (.slice (some ⟨g, 1, none⟩) k c) (codedB 512 (numsL wkV wkN 5))) := hse
  have hk : 0 < k := by
    obtain ⟨_, _, e, _, _⟩ := hse
    injection e with _ e2 _
    rw [e2]; exact wk_pos
  have hkd : decide ((0 : Int) < (k : Int)) = true := decide_eq_true (by omega)
  have hkd2 : decide (0 < k) = true := decide_eq_true hk
  clear f1 hall hse hg hk
  go_wp2_with fail
  have hln := numsL_len wkV wkN 5
  refine (wdecode_any _ _ _ 5 (by omega) HSe.out (.inr ⟨_, _, _, rfl⟩) (codedB_lt (by omega) (by omega) (by omega)) (HR.out.kept F1.out (fun h => h))).mono ?_
  rintro e w2 ⟨f2, (⟨hall, g2, rfl, hnu, hg2⟩ | ⟨⟨j, hj, hm⟩, _⟩)⟩
  rotate_left
  · have hb := (nums_back wkV wkN 5 (by omega) wk_may j (by omega)).2 hj
    have := (join_back (wk_may j hj)).2.2
    omega
  have F2 : Hid (Fr (fun _ => False) w w2) := Fr.trans F1.out f2 (fun _ _ h => h)
  have HN2 : Hid (NumsAt w2 (some ⟨w.heap.size, 0, none⟩) 5 wkV wkN) := HN1.out.kept f2
  have hv : ∀ j, j < 5 → joinI (sgN (codedB 512 (numsL wkV wkN 5)) j) (amN (codedB 512 (numsL wkV wkN 5)) j) = wkV j ∧ joinN (sgN (codedB 512 (numsL wkV wkN 5)) j) (amN (codedB 512 (numsL wkV wkN 5)) j) = wkN j := by
    intro j hj
    obtain ⟨q1, q2⟩ := (nums_back wkV wkN 5 (by omega) wk_may j (by omega)).2 hj
    obtain ⟨q3, q4, _⟩ := join_back (wk_may j hj)
    rw [q1, q2, q3, q4]
    rcases (by omega : j = 0 ∨ j = 1 ∨ j = 2 ∨ j = 3 ∨ j = 4) with rfl | rfl | rfl | rfl | rfl <;> decide
  have HNu : Hid (NumsAt w2 (some ⟨g2, 0, none⟩) 5 wkV wkN) := hnu.congr hv
  clear f2 hall hnu hg2 hv hln
  go_wp2_with fail
  refine (eqw_same _ _ _ 5 _ _ wkV wkN HN2.out HNu.out (by omega)).mono ?_
  rintro e w3 ⟨rfl, q, rfl⟩
  go_wp2_with fail
  go_ret
  exact ⟨rfl, F2.out.drewN q⟩

end Go.Proofs.YtllhekkclhcdbaaDoor
