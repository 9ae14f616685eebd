/- What Decode says, whatever it is given. -/
import Derived.Test.YtkggdnkmaldmlaaK28
import Derived.Test.YtkggdnkmaldmlaaK16
namespace Go.Proofs.Ytkggdnkmaldmlaa
open Go.RowKit

/-- What Decode says. -/
def decE (x y ti : Int) : Int := if ti < 0 ∨ 4 ≤ ti then 60 else if sizeOK x y then 0 else 63
theorem seen_none (w : World) : Seen w (.slice none 0 0) [] := ⟨none, 0, rfl, by decide, fun h => absurd rfl h⟩

set_option maxRecDepth 100000 in
set_option maxHeartbeats 4000000 in
theorem gget_badA (bd : Nat) (base : Int) (t : Nat) (x y : Int) (skip : Bool) (w : World) (ht : t < 4) (hx : -9223372036854775808 ≤ x ∧ x ≤ 9223372036854775807) (hy : -9223372036854775808 ≤ y ∧ y ≤ 9223372036854775807) (hs : sizeOK x y = false) :
    Calls Try.prog 34 #[.pointer (some ⟨bd, 0, none⟩), .int .i64 base, .int .i64 x, .int .i64 y, .int .i64 t, .bool skip] w fun e w' => e = .returned (.tuple #[.agg #[.int .i64 0, .int .i64 0, .slice none 0 0], .int .i64 63]) ∧ Fr (fun _ => False) w w' := by
  have HNo : Hid (∀ w', Calls Try.prog 64 #[.int .i64 x, .int .i64 y] w' fun e w'' => e = .returned (.tuple #[.pointer none, .int .i64 20]) ∧ Fr (fun _ => False) w' w'') := fun w' => (new_no x y w' hx hy hs).mono (fun e w2 ⟨h1, h2⟩ => ⟨h1, by rw [h2]; exact Fr.refl _ _⟩)
  have HNP : Hid (∀ w', Calls Try.prog 38 #[.int .i64 base, .int .i64 t, .bool skip] w' fun e w'' => e = .returned (.tuple #[procI base t skip, .int .i64 0]) ∧ Fr (fun _ => False) w' w'') := fun w' => newProc_ok base t skip ht w'
  unfold procI at *
  clear ht hx hy hs
  generalize sizeT t = Z at *
  generalize 2 ^ cntS t 2 - 1 = O at *
  go_enter Try.func34, Try.ntmps34
  go_wp2_with fail
  refine (HNP.out _).mono ?_
  rintro e w1 ⟨rfl, hf1⟩
  have hs1 : w.heap.size < w1.heap.size := by have := hf1.size; simp at this; omega
  have HF1 : Hid (Fr (fun _ => False) w (w1.alloc (.cells #[.int .i64 base, .int .i64 t, .int .i64 Z, .int .i64 O, .bool skip] 85))) := (((Fr.refl _ _).alloc _).trans hf1 (fun _ _ h => h)).alloc _
  have HBX : Hid (∀ w', Fr (fun _ => False) (w1.alloc (.cells #[.int .i64 base, .int .i64 t, .int .i64 Z, .int .i64 O, .bool skip] 85)) w' → w'.heap[w.heap.size]? = some (.cells #[.int .i64 0, .int .i64 0, .slice none 0 0] 26 (0, 0))) := fun w' f => by
    rw [f.block _ (by simp; omega) (fun h => h), Below.heap_alloc _ _ _ hs1, hf1.block _ (by simp) (fun h => h)]; exact heap_alloc_new w _
  clear hf1
  go_wp2_with fail
  generalize w1.alloc (.cells #[.int .i64 base, .int .i64 t, .int .i64 Z, .int .i64 O, .bool skip] 85) = wA at *
  refine (HNo.out _).mono ?_
  rintro e w3 ⟨rfl, hf3⟩
  have HF3 : Hid (Fr (fun _ => False) wA w3) := hf3
  clear hf3
  have hb9 := (HBX.out _ HF3.out)
  have hset := set3_cells hb9 (.int .i64 0) (.int .i64 0) (.slice none 0 0)
  have hf9 : Fr (fun k => k = w.heap.size) w3 (((w3.setCell ⟨w.heap.size, 0, none⟩ (.int .i64 0)).setCell ⟨w.heap.size, 1, none⟩ (.int .i64 0)).setCell ⟨w.heap.size, 2, none⟩ (.slice none 0 0)) := (((Fr.refl (fun k => k = w.heap.size) w3).setCell (p := ⟨w.heap.size, 0, none⟩) (fun _ => rfl) _).setCell (p := ⟨w.heap.size, 1, none⟩) (fun _ => rfl) _).setCell (p := ⟨w.heap.size, 2, none⟩) (fun _ => rfl) _
  obtain ⟨w9, hw9⟩ : ∃ w9, w9 = (((w3.setCell ⟨w.heap.size, 0, none⟩ (.int .i64 0)).setCell ⟨w.heap.size, 1, none⟩ (.int .i64 0)).setCell ⟨w.heap.size, 2, none⟩ (.slice none 0 0)) := ⟨_, rfl⟩
  rw [← hw9] at hset hf9
  obtain ⟨x0, x1, x2, xf⟩ := cell_of_three hset
  have HW9 := (show Hid (w9 = (((w3.setCell ⟨w.heap.size, 0, none⟩ (.int .i64 0)).setCell ⟨w.heap.size, 1, none⟩ (.int .i64 0)).setCell ⟨w.heap.size, 2, none⟩ (.slice none 0 0))) from hw9)
  have HE : Hid (Fr (fun _ => False) w w9) := (HF1.out.trans HF3.out (fun _ _ h => h)).trans hf9 (fun i hi e => by omega)
  obtain ⟨u0, u1, u2, uf⟩ := cell_of_three hb9
  clear hset hf9 xf hb9 hw9
  go_wp2_with fail
  rw [← HW9.out]
  refine bodyPost_ret (v := .tuple #[.agg #[.int .i64 0, .int .i64 0, .slice none 0 0], .int .i64 63]) (by simp [results, Try.results34, go_sem, x0, x1, x2]) rfl ?_
  exact ⟨rfl, HE.out⟩

set_option maxRecDepth 100000 in
set_option maxHeartbeats 4000000 in
theorem gdecode_badT (v : Value) (x y ti : Int) (skip : Bool) (w : World) (hv : ∃ a n c, v = .slice a n c) (ht : ti < 0 ∨ 4 ≤ ti) :
    Calls Try.prog 18 #[v, .int .i64 x, .int .i64 y, .int .i64 ti, .bool skip] w fun e w' => e = .returned (.tuple #[.agg #[.int .i64 0, .int .i64 0, .slice none 0 0], .int .i64 60]) ∧ Fr (fun _ => False) w w' := by
  have HNP : Hid (∀ w', Calls Try.prog 38 #[.int .i64 0, .int .i64 ti, .bool skip] w' fun e w'' => e = .returned (.tuple #[.agg #[.int .i64 0, .int .i64 0, .int .i64 0, .int .i64 0, .bool false], .int .i64 60]) ∧ Fr (fun _ => False) w' w'') := fun w' => newProc_bad 0 ti skip ht w'
  obtain ⟨va, vn, vc, rfl⟩ := hv
  clear ht
  go_enter Try.func18, Try.ntmps18
  go_wp2_with fail
  refine (HNP.out _).mono ?_
  rintro e w1 ⟨rfl, hf1⟩
  have hs1 : w.heap.size < w1.heap.size := by have := hf1.size; simp at this; omega
  have HF1 : Hid (Fr (fun _ => False) w w1) := ((Fr.refl _ _).alloc _).trans hf1 (fun _ _ h => h)
  have hbu : w1.heap[w.heap.size]? = some (.cells #[.int .i64 0, .int .i64 0, .slice none 0 0] 26 (0, 0)) := by rw [hf1.block _ (by simp) (fun h => h)]; exact heap_alloc_new w _
  clear hf1
  have hset0 := set3_cells hbu (.int .i64 0) (.int .i64 0) (.slice none 0 0)
  have hset := blkUp hset0 (.cells #[.int .i64 0, .int .i64 0, .int .i64 0, .int .i64 0, .bool false] 85)
  have hf9 : Fr (fun k => k = w.heap.size) w1 ((((w1.setCell ⟨w.heap.size, 0, none⟩ (.int .i64 0)).setCell ⟨w.heap.size, 1, none⟩ (.int .i64 0)).setCell ⟨w.heap.size, 2, none⟩ (.slice none 0 0)).alloc (.cells #[.int .i64 0, .int .i64 0, .int .i64 0, .int .i64 0, .bool false] 85)) := ((((Fr.refl (fun k => k = w.heap.size) w1).setCell (p := ⟨w.heap.size, 0, none⟩) (fun _ => rfl) _).setCell (p := ⟨w.heap.size, 1, none⟩) (fun _ => rfl) _).setCell (p := ⟨w.heap.size, 2, none⟩) (fun _ => rfl) _).alloc _
  obtain ⟨w9, hw9⟩ : ∃ w9, w9 = (((w1.setCell ⟨w.heap.size, 0, none⟩ (.int .i64 0)).setCell ⟨w.heap.size, 1, none⟩ (.int .i64 0)).setCell ⟨w.heap.size, 2, none⟩ (.slice none 0 0)).alloc (.cells #[.int .i64 0, .int .i64 0, .int .i64 0, .int .i64 0, .bool false] 85) := ⟨_, rfl⟩
  rw [← hw9] at hset hf9
  obtain ⟨x0, x1, x2, xf⟩ := cell_of_three hset
  have HW9 := (show Hid (w9 = (((w1.setCell ⟨w.heap.size, 0, none⟩ (.int .i64 0)).setCell ⟨w.heap.size, 1, none⟩ (.int .i64 0)).setCell ⟨w.heap.size, 2, none⟩ (.slice none 0 0)).alloc (.cells #[.int .i64 0, .int .i64 0, .int .i64 0, .int .i64 0, .bool false] 85)) from hw9)
  have HE : Hid (Fr (fun _ => False) w w9) := HF1.out.trans hf9 (fun i hi e => by omega)
  obtain ⟨u0, u1, u2, uf⟩ := cell_of_three hbu
  clear hset0 hset hf9 xf hbu hw9
  go_wp2_with fail
  rw [← HW9.out]
  refine bodyPost_ret (v := .tuple #[.agg #[.int .i64 0, .int .i64 0, .slice none 0 0], .int .i64 60]) (by simp [results, Try.results18, go_sem, x0, x1, x2]) rfl ?_
  exact ⟨rfl, HE.out⟩

set_option maxRecDepth 100000 in
set_option maxHeartbeats 4000000 in
theorem gdecode_badA (v : Value) (B : List Nat) (x y : Int) (t : Nat) (skip : Bool) (w : World) (hv : SeenAt w v B) (hnil : v = .slice none 0 0 ∨ ∃ a n c, v = .slice (some a) n c) (hB : ∀ y ∈ B, y < 256) (hx : -9223372036854775808 ≤ x ∧ x ≤ 9223372036854775807) (hy : -9223372036854775808 ≤ y ∧ y ≤ 9223372036854775807) (ht : t < 4) (hs : sizeOK x y = false) :
    Calls Try.prog 18 #[v, .int .i64 x, .int .i64 y, .int .i64 t, .bool skip] w fun e w' => e = .returned (.tuple #[.agg #[.int .i64 0, .int .i64 0, .slice none 0 0], .int .i64 63]) ∧ Fr (fun _ => False) w w' := by
  have hZ := sizeT_le t ht
  have HNP : Hid (∀ w', Calls Try.prog 38 #[.int .i64 0, .int .i64 t, .bool skip] w' fun e w'' => e = .returned (.tuple #[procI 0 t skip, .int .i64 0]) ∧ Fr (fun _ => False) w' w'') := fun w' => newProc_ok 0 t skip ht w'
  have HCn : Hid (∀ w', Calls Try.prog 39 #[procI 0 t skip] w' fun e w'' => e = .returned (.int .i64 ((sizeT t + 1 : Nat) : Int)) ∧ Fr (fun _ => False) w' w'') := fun w' => count7_any 0 t skip ht w'
  have HNw : Hid (∀ w', Fr (fun _ => False) w w' → Calls Try.prog 31 #[v, .int .i64 ((sizeT t + 1 : Nat) : Int)] w' fun e w'' => ∃ bd, e = .returned (.tuple #[.pointer (some ⟨bd, 0, none⟩), .int .i64 0]) ∧ Fr (fun _ => False) w' w'') := fun w' f => by
    refine (newDecoder_any w' v B (sizeT t + 1) (by omega) (by omega) (hv.kept f (fun _ _ h => h)) hnil hB).mono ?_
    rintro e w'' ⟨bd, gc, vb, rfl, _, hf, _⟩
    exact ⟨bd, rfl, hf⟩
  have HGt : Hid (∀ (w' : World) (bd : Nat), Calls Try.prog 34 #[.pointer (some ⟨bd, 0, none⟩), .int .i64 0, .int .i64 x, .int .i64 y, .int .i64 t, .bool skip] w' fun e w'' => e = .returned (.tuple #[.agg #[.int .i64 0, .int .i64 0, .slice none 0 0], .int .i64 63]) ∧ Fr (fun _ => False) w' w'') := fun w' bd => gget_badA bd 0 t x y skip w' ht hx hy hs
  obtain ⟨va, vc, rfl, -, -⟩ := hv
  generalize B.length = nB at *
  unfold procI at *
  clear ht hB hx hy hs hnil
  generalize ((sizeT t + 1 : Nat) : Int) = C1 at *
  generalize sizeT t = Z at *
  generalize 2 ^ cntS t 2 - 1 = O at *
  go_enter Try.func18, Try.ntmps18
  go_wp2_with fail
  refine (HNP.out _).mono ?_
  rintro e w1 ⟨rfl, hf1⟩
  have hs1 : w.heap.size < w1.heap.size := by have := hf1.size; simp at this; omega
  have HF1 : Hid (Fr (fun _ => False) w (w1.alloc (.cells #[.int .i64 0, .int .i64 t, .int .i64 Z, .int .i64 O, .bool skip] 85))) := (((Fr.refl _ _).alloc _).trans hf1 (fun _ _ h => h)).alloc _
  have HBX : Hid (∀ w', Fr (fun _ => False) (w1.alloc (.cells #[.int .i64 0, .int .i64 t, .int .i64 Z, .int .i64 O, .bool skip] 85)) w' → w'.heap[w.heap.size]? = some (.cells #[.int .i64 0, .int .i64 0, .slice none 0 0] 26 (0, 0)) ∧ w'.heap[w1.heap.size]? = some (.cells #[.int .i64 0, .int .i64 t, .int .i64 Z, .int .i64 O, .bool skip] 85 (0, 0))) := fun w' f => by
    refine ⟨?_, ?_⟩
    · rw [f.block _ (by simp; omega) (fun h => h), Below.heap_alloc _ _ _ hs1, hf1.block _ (by simp) (fun h => h)]; exact heap_alloc_new w _
    · rw [f.block _ (by simp) (fun h => h)]; exact heap_alloc_new w1 _
  clear hf1
  obtain ⟨p0, p1, p2, p3, p4, pf⟩ := cell_of_five (HBX.out _ (Fr.refl _ _)).2
  go_wp2_with fail
  generalize hwA : w1.alloc (.cells #[.int .i64 0, .int .i64 t, .int .i64 Z, .int .i64 O, .bool skip] 85) = wA at *
  refine (HCn.out _).mono ?_
  rintro e w2 ⟨rfl, hf2⟩
  have HF2 : Hid (Fr (fun _ => False) wA w2) := hf2
  clear hf2 p0 p1 p2 p3 p4 pf hwA
  go_wp2_with fail
  refine (HNw.out _ (HF1.out.trans HF2.out (fun _ _ h => h))).mono ?_
  rintro e w3 ⟨bd, rfl, hf3⟩
  have HF3 : Hid (Fr (fun _ => False) wA w3) := HF2.out.trans hf3 (fun _ _ h => h)
  clear hf3
  go_wp2_with fail
  refine (HGt.out _ bd).mono ?_
  rintro e w4 ⟨rfl, hf4⟩
  have HF4 : Hid (Fr (fun _ => False) wA w4) := HF3.out.trans hf4 (fun _ _ h => h)
  clear hf4
  have hb9 := (HBX.out _ HF4.out).1
  have hset := set3_cells hb9 (.int .i64 0) (.int .i64 0) (.slice none 0 0)
  have hf9 : Fr (fun k => k = w.heap.size) w4 (((w4.setCell ⟨w.heap.size, 0, none⟩ (.int .i64 0)).setCell ⟨w.heap.size, 1, none⟩ (.int .i64 0)).setCell ⟨w.heap.size, 2, none⟩ (.slice none 0 0)) := (((Fr.refl (fun k => k = w.heap.size) w4).setCell (p := ⟨w.heap.size, 0, none⟩) (fun _ => rfl) _).setCell (p := ⟨w.heap.size, 1, none⟩) (fun _ => rfl) _).setCell (p := ⟨w.heap.size, 2, none⟩) (fun _ => rfl) _
  obtain ⟨w9, hw9⟩ : ∃ w9, w9 = (((w4.setCell ⟨w.heap.size, 0, none⟩ (.int .i64 0)).setCell ⟨w.heap.size, 1, none⟩ (.int .i64 0)).setCell ⟨w.heap.size, 2, none⟩ (.slice none 0 0)) := ⟨_, rfl⟩
  rw [← hw9] at hset hf9
  obtain ⟨x0, x1, x2, xf⟩ := cell_of_three hset
  have HW9 := (show Hid (w9 = (((w4.setCell ⟨w.heap.size, 0, none⟩ (.int .i64 0)).setCell ⟨w.heap.size, 1, none⟩ (.int .i64 0)).setCell ⟨w.heap.size, 2, none⟩ (.slice none 0 0))) from hw9)
  have HE : Hid (Fr (fun _ => False) w w9) := (HF1.out.trans HF4.out (fun _ _ h => h)).trans hf9 (fun i hi e => by omega)
  obtain ⟨u0, u1, u2, uf⟩ := cell_of_three hb9
  clear hset hf9 xf hb9 hw9
  go_wp2_with fail
  rw [← HW9.out]
  refine bodyPost_ret (v := .tuple #[.agg #[.int .i64 0, .int .i64 0, .slice none 0 0], .int .i64 63]) (by simp [results, Try.results18, go_sem, x0, x1, x2]) rfl ?_
  exact ⟨rfl, HE.out⟩

/-- What Decode tells: the bitmap's words. -/
def rdL (B : List Nat) (x y ti : Int) (sk : Bool) : List Nat := if decE x y ti = 0 then render x.toNat y.toNat (gotW B 0 ti.toNat x.toNat sk y.toNat (newD B (sizeT ti.toNat + 1))).2 else []
def decN (x y ti z : Int) : Int := if decE x y ti = 0 then z else 0
theorem decE_ok {x y ti : Int} (h : decE x y ti = 0) : ¬ (ti < 0 ∨ 4 ≤ ti) ∧ sizeOK x y = true := by
  unfold decE at h
  by_cases ht : ti < 0 ∨ 4 ≤ ti
  · rw [if_pos ht] at h; exact absurd h (by decide)
  · rw [if_neg ht] at h
    cases hs : sizeOK x y
    · rw [hs] at h; simp at h
    · exact ⟨ht, rfl⟩
theorem Seen.keptB {w w' : World} {v : Value} {l : List Nat} {S : Nat → Prop} (h : Seen w v l) (f : Fr S w w') (hs : ∀ k, v.ownBlock = some k → ¬ S k) : Seen w' v l := by
  obtain ⟨ao, cap, rfl, hl, hc⟩ := h
  refine ⟨ao, cap, rfl, hl, fun hne => ?_⟩
  obtain ⟨b, off, rfl, hcc⟩ := hc hne
  exact ⟨b, off, rfl, fun j hj => by rw [f.cellEq (seen_lt (hcc j hj)) (hs b rfl)]; exact hcc j hj⟩
/-- The readings that the law tries: a size that may be is small. -/
theorem most_rows {W H : Nat} (h1 : 1 ≤ W) (h6 : W * H ≤ 6000) : H * (W + 1) ≤ 12000 := by
  have : H * 1 ≤ H * W := Nat.mul_le_mul_left _ h1
  rw [Nat.mul_add]
  rw [Nat.mul_comm] at h6
  omega

theorem gdecode_all (v : Value) (B : List Nat) (x y ti : Int) (sk : Bool) (w : World) (hv : SeenAt w v B) (hnil : v = .slice none 0 0 ∨ ∃ a n c, v = .slice (some a) n c) (hB : ∀ y ∈ B, y < 256) (hx : -9223372036854775808 ≤ x ∧ x ≤ 9223372036854775807) (hy : -9223372036854775808 ≤ y ∧ y ≤ 9223372036854775807) (h6 : sizeOK x y = true → x * y ≤ 6000) :
    Calls Try.prog 18 #[v, .int .i64 x, .int .i64 y, .int .i64 ti, .bool sk] w fun e w' => ∃ vf, e = .returned (.tuple #[.agg #[.int .i64 (decN x y ti x), .int .i64 (decN x y ti y), vf], .int .i64 (decE x y ti)]) ∧ Seen w' vf (rdL B x y ti sk) ∧ (∀ k, vf.ownBlock = some k → w.heap.size ≤ k) ∧ Fr (fun _ => False) w w' := by
  by_cases ht : ti < 0 ∨ 4 ≤ ti
  · have he : decE x y ti = 60 := by unfold decE; rw [if_pos ht]
    refine (gdecode_badT v x y ti sk w (by obtain ⟨a, c, e, _⟩ := hv; exact ⟨a, _, c, e⟩) ht).mono ?_
    rintro e w' ⟨rfl, hf⟩
    unfold decN rdL
    rw [he, if_neg (by decide), if_neg (by decide), if_neg (by decide)]
    exact ⟨_, rfl, seen_none w', fun k hk => by simp [Value.ownBlock] at hk, hf⟩
  · obtain ⟨t, rfl⟩ : ∃ t : Nat, ti = t := ⟨ti.toNat, by omega⟩
    cases hs : sizeOK x y
    · have he : decE x y t = 63 := by unfold decE; rw [if_neg ht, hs]; rfl
      refine (gdecode_badA v B x y t sk w hv hnil hB hx hy (by omega) hs).mono ?_
      rintro e w' ⟨rfl, hf⟩
      unfold decN rdL
      rw [he, if_neg (by decide), if_neg (by decide), if_neg (by decide)]
      exact ⟨_, rfl, seen_none w', fun k hk => by simp [Value.ownBlock] at hk, hf⟩
    · have he : decE x y t = 0 := by unfold decE; rw [if_neg ht, hs]; rfl
      have h6' := h6 hs
      unfold sizeOK at hs
      obtain ⟨s1, s2, s3⟩ := of_decide_eq_true hs
      obtain ⟨W, rfl⟩ : ∃ W : Nat, x = W := ⟨x.toNat, by omega⟩
      obtain ⟨H, rfl⟩ : ∃ H : Nat, y = H := ⟨y.toNat, by omega⟩
      rw [← Int.natCast_mul] at s3 h6'
      unfold decN rdL
      rw [he, if_pos rfl, if_pos rfl, if_pos rfl]
      have hmm := most_rows (W := W) (H := H) (by omega) (by omega)
      refine (gdecode_ok v B W H t sk w hv hnil hB (by omega) (by omega) (by omega) (by omega) (by omega)).mono ?_
      rintro e w' ⟨g, cap, rfl, hrow, hg, hf⟩
      exact ⟨_, rfl, hrow.seen (size_facts (by omega) (by omega) (by omega)).2.2, fun k hk => by simp [Value.ownBlock] at hk; omega, hf⟩

end Go.Proofs.Ytkggdnkmaldmlaa
