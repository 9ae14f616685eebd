/- 'same': is a map the bitmap? -/
import Derived.Test.YtflhbmapikdmhaaDoorMay
import Derived.Test.YtflhbmapikdmhaaDoorOver
namespace Go.Proofs.YtflhbmapikdmhaaDoor
open Go.RowKit

theorem eqw_any (v u : Value) (la lb : List Nat) (w : World) (ha : Seen w v la) (hb : Seen w u lb) :
    Calls Tryd.prog 71 #[v, u] w fun e w' => e = .returned (.bool (decide (la = lb))) ∧ Fr (fun _ => False) w w' := by
  by_cases hl : la.length = lb.length
  · refine (eqw_same v u la lb w ha hb hl _ rfl).mono ?_
    rintro e w' ⟨he, q, rfl⟩
    exact ⟨he, (Fr.refl _ _).drewN q⟩
  · refine (eqw_len v u la lb w ha hb hl).mono ?_
    rintro e w' ⟨he, rfl⟩
    refine ⟨?_, Fr.refl _ _⟩
    rw [decide_eq_false (fun h => hl (by rw [h]))]; exact he

def eqB (x y x2 y2 : Int) (la lb : List Nat) : Bool := (x == x2) && ((y == y2) && decide (la = lb))

set_option maxRecDepth 100000 in
set_option maxHeartbeats 2000000 in
theorem eqBitmap_any (x y x2 y2 : Int) (v u : Value) (la lb : List Nat) (w : World) (ha : Seen w v la) (hb : Seen w u lb) :
    Calls Tryd.prog 55 #[.agg #[.int .i64 x, .int .i64 y, v], .agg #[.int .i64 x2, .int .i64 y2, u]] w fun e w' => e = .returned (.bool (eqB x y x2 y2 la lb)) ∧ Fr (fun _ => False) w w' := by
  have HQ : Hid (∀ w', Fr (fun _ => False) w w' → Calls Tryd.prog 71 #[v, u] w' fun e w'' => e = .returned (.bool (decide (la = lb))) ∧ Fr (fun _ => False) w' w'') := fun w' hf => eqw_any v u la lb w' (ha.kept hf) (hb.kept hf)
  obtain ⟨ao, ca, rfl, hla, _⟩ := ha
  obtain ⟨bo, cb, rfl, hlb, _⟩ := hb
  unfold eqB
  generalize decide (la = lb) = d at *
  generalize la.length = n at *
  generalize lb.length = m at *
  rcases hxb : (x == x2) with _ | _
  · go_enter Tryd.func55, Tryd.ntmps55
    go_wp2_with fail
    go_ret
    exact ⟨rfl, ((Fr.refl _ _).alloc _).alloc _⟩
  · rcases hyb : (y == y2) with _ | _
    · go_enter Tryd.func55, Tryd.ntmps55
      go_wp2_with fail
      go_ret
      exact ⟨rfl, ((Fr.refl _ _).alloc _).alloc _⟩
    · go_enter Tryd.func55, Tryd.ntmps55
      go_wp2_with fail
      refine (HQ.out _ (((Fr.refl _ _).alloc _).alloc _)).mono ?_
      rintro e w1 ⟨rfl, hf1⟩
      have HF : Hid (Fr (fun _ => False) w w1) := (((Fr.refl _ _).alloc _).alloc _).trans hf1 (fun _ _ hh => hh)
      clear hf1
      go_wp2_with fail
      go_ret
      exact ⟨by cases d <;> rfl, HF.out⟩

def qB (x y x2 y2 : Int) (la lb : List Nat) : Bool := validB x y la && (validB x2 y2 lb && eqB x y x2 y2 la lb)

end Go.Proofs.YtflhbmapikdmhaaDoor

namespace Go.Proofs.YtflhbmapikdmhaaDoor
open Go.RowKit

def sameB (W H : Nat) (P : Nat → Nat → Bool) (x y : Int) (l : List Nat) : Bool := eqB (W : Int) (H : Int) x y (render W H P) l

set_option maxRecDepth 100000 in
set_option maxHeartbeats 2000000 in
theorem same_any (b g cap W H : Nat) (P : Nat → Nat → Bool) (x y : Int) (u : Value) (l : List Nat) (w : World) (h : MapAt w b g cap W H P) (hu : Seen w u l) :
    Calls Tryd.prog 19 #[.pointer (some ⟨b, 0, none⟩), .agg #[.int .i64 x, .int .i64 y, u]] w fun e w' => e = .returned (.bool (sameB W H P x y l)) ∧ Fr (fun _ => False) w w' := by
  have HM : Hid (MapAt w b g cap W H P) := h
  have HU : Hid (Seen w u l) := hu
  have hwl := h.words_le
  clear h
  obtain ⟨uo, ucap, rfl, hll, _⟩ := hu
  obtain ⟨n, hn⟩ : ∃ n, n = l.length := ⟨_, rfl⟩
  rw [← hn] at HU hll ⊢
  clear hn
  go_enter Tryd.func19, Tryd.ntmps19
  go_wp2_with fail
  refine (plain_any b g cap W H P _ (HM.out.kept ((Fr.refl (fun _ => False) _).alloc _) (fun hh => hh) (fun hh => hh))).mono ?_
  rintro e w1 ⟨g2, cap2, rfl, ho, hf1, hg2⟩
  obtain ⟨N, hN⟩ : ∃ N, N = H * stride W := ⟨_, rfl⟩
  rw [← hN] at ho hwl ⊢
  have HNN : Hid (N = H * stride W) := hN
  clear hN
  have HO : Hid (w1.ownsRow 0 77 1 (.slice (some ⟨g2, 0, none⟩) N cap2) N (wordCells (render W H P))) := ho
  have HF1 : Hid (Fr (fun _ => False) (w.alloc (.cells #[.int .i64 x, .int .i64 y, .slice uo n ucap] 39)) w1) := hf1
  have hg3 : w.heap.size + 1 ≤ g2 := by simpa using hg2
  have HG2 : Hid (w.heap.size + 1 ≤ g2) := hg3
  clear hg3
  clear ho hf1 hg2
  go_wp2_with fail
  refine (size_any b g cap W H P _ (HM.out.kept ((((Fr.refl (fun _ => False) _).alloc _).trans HF1.out (fun _ _ hh => hh)).alloc _) (fun hh => hh) (fun hh => hh))).mono ?_
  rintro e w2 ⟨rfl, q2, hw2⟩
  have HF2 : Hid (Fr (fun _ => False) (w1.alloc (.cells #[.int .i64 W, .int .i64 H, .slice (some ⟨g2, 0, none⟩) N cap2] 39)) w2) := by rw [hw2]; exact (Fr.refl _ _).drewN q2
  have hsz1 : w.heap.size + 1 ≤ w1.heap.size := by have := HF1.out.size; simpa using this
  have hb1 : w2.heap[w.heap.size]? = some (.cells #[.int .i64 x, .int .i64 y, .slice uo n ucap] 39 (0, 0)) := by
    rw [HF2.out.block _ (by simp; omega) (fun hh => hh), Below.heap_alloc _ _ _ (by omega), HF1.out.block _ (by simp) (fun hh => hh)]; exact heap_alloc_new _ _
  have hb2 : w2.heap[w1.heap.size]? = some (.cells #[.int .i64 W, .int .i64 H, .slice (some ⟨g2, 0, none⟩) N cap2] 39 (0, 0)) := by
    rw [HF2.out.block _ (by simp) (fun hh => hh)]; exact heap_alloc_new _ _
  have HW2 : Hid (Fr (fun _ => False) w w2) := ((((Fr.refl (fun _ => False) _).alloc _).trans HF1.out (fun _ _ hh => hh)).alloc _).trans HF2.out (fun _ _ hh => hh)
  have HO2 : Hid (w2.ownsRow 0 77 1 (.slice (some ⟨g2, 0, none⟩) N cap2) N (wordCells (render W H P))) := row_kept (HO.out.alloc (.cells #[.int .i64 W, .int .i64 H, .slice (some ⟨g2, 0, none⟩) N cap2] 39)) HF2.out (fun _ _ hh => hh)
  have HQ : Hid (Calls Tryd.prog 55 #[.agg #[.int .i64 W, .int .i64 H, .slice (some ⟨g2, 0, none⟩) N cap2], .agg #[.int .i64 x, .int .i64 y, .slice uo n ucap]] w2 fun e w' => e = .returned (.bool (sameB W H P x y l)) ∧ Fr (fun _ => False) w2 w') := by
    refine eqBitmap_any W H x y _ _ (render W H P) l w2 (Seen.of_row (base := 0) ?_ ?_) (HU.out.kept HW2.out)
    · rw [length_render, ← HNN.out]; exact HO2.out
    · rw [length_render, ← HNN.out]; omega
  have HSB : Hid (sameB W H P x y l = true → (W : Int) = x ∧ (H : Int) = y) := fun h => by
    unfold sameB eqB at h
    simp at h
    exact ⟨h.1, h.2.1⟩
  obtain ⟨c0, c1, c2, _⟩ := cell_of_three hb1
  obtain ⟨d0, d1, d2, _⟩ := cell_of_three hb2
  have HK : Hid (w2.heap[w.heap.size]? = some (.cells #[.int .i64 x, .int .i64 y, .slice uo n ucap] 39 (0, 0)) ∧ w2.heap[w1.heap.size]? = some (.cells #[.int .i64 W, .int .i64 H, .slice (some ⟨g2, 0, none⟩) N cap2] 39 (0, 0))) := ⟨hb1, hb2⟩
  clear hw2 hb1 hb2 HO HF1 HM HU
  go_wp2_with fail
  refine HQ.out.mono ?_
  rintro e w3 ⟨rfl, hf3⟩
  obtain ⟨hk1, hk2⟩ := HK.out
  have hb1 : w3.heap[w.heap.size]? = some (.cells #[.int .i64 x, .int .i64 y, .slice uo n ucap] 39 (0, 0)) := by rw [hf3.block _ (lt_of_block hk1) (fun hh => hh)]; exact hk1
  have hb2 : w3.heap[w1.heap.size]? = some (.cells #[.int .i64 W, .int .i64 H, .slice (some ⟨g2, 0, none⟩) N cap2] 39 (0, 0)) := by rw [hf3.block _ (lt_of_block hk2) (fun hh => hh)]; exact hk2
  clear hk1 hk2 HK c0 c1 c2 d0 d1 d2
  obtain ⟨c0, c1, c2, _⟩ := cell_of_three hb1
  obtain ⟨d0, d1, d2, _⟩ := cell_of_three hb2
  have HO3 : Hid (w3.ownsRow 0 77 1 (.slice (some ⟨g2, 0, none⟩) N cap2) N (wordCells (render W H P))) := row_kept HO2.out hf3 (fun _ _ hh => hh)
  have HW3 : Hid (Fr (fun _ => False) w w3) := HW2.out.trans hf3 (fun _ _ hh => hh)
  clear hf3 HQ HO2 HW2 hb1 hb2 HF2
  have HOV : Hid (Calls Tryd.prog 56 #[.slice (some ⟨g2, 0, none⟩) N cap2] w3 fun e w' => e = .returned (.tuple #[]) ∧ Fr (fun k => k = g2) w3 w') := over_any g2 cap2 N _ w3 (by omega) HO3.out
  rcases hsb : sameB W H P x y l with _ | _
  · go_wp2_with fail
    refine HOV.out.mono ?_
    rintro e w4 ⟨rfl, hf4⟩
    have HW4 : Hid (Fr (fun _ => False) w w4) := HW3.out.trans hf4 (fun i hi e => by have := HG2.out; omega)
    clear hf4
    go_wp2_with fail
    go_ret
    exact ⟨by rw [hsb]; rfl, HW4.out⟩
  · obtain ⟨e1, e2⟩ := HSB.out hsb
    have hq1 : ((W : Int) == x) = true := by simp [e1]
    have hq2 : ((H : Int) == y) = true := by simp [e2]
    clear e1 e2
    go_wp2_with fail
    refine HOV.out.mono ?_
    rintro e w4 ⟨rfl, hf4⟩
    have HW4 : Hid (Fr (fun _ => False) w w4) := HW3.out.trans hf4 (fun i hi e => by have := HG2.out; omega)
    clear hf4
    go_wp2_with fail
    go_ret
    exact ⟨by rw [hsb]; rfl, HW4.out⟩

end Go.Proofs.YtflhbmapikdmhaaDoor
