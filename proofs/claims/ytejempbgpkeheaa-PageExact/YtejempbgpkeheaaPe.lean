/- Package page: End. -/
import Derived.Test.YtejempbgpkeheaaPa
import Derived.Deep.Cut
namespace Go.Proofs.Ytejempbgpkeheaa
open Go.RowKit

theorem three_set {w : World} {o : Nat} {x y z : Value} {t : TypeId} (h : w.heap[o]? = some (.cells #[x, y, z] t (0, 0))) (a b c : Value) : (((w.setCell ⟨o, 0, none⟩ a).setCell ⟨o, 1, none⟩ b).setCell ⟨o, 2, none⟩ c).heap[o]? = some (.cells #[a, b, c] t (0, 0)) := by
  simp [World.setCell, Array.getElem?_modify, h]
theorem Fr.three {w : World} (o : Nat) (a b c : Value) : Fr (fun k => k = o) w (((w.setCell ⟨o, 0, none⟩ a).setCell ⟨o, 1, none⟩ b).setCell ⟨o, 2, none⟩ c) :=
  ((Fr.one w o 0 a).trans (Fr.one _ o 1 b) (fun _ _ h => h)).trans (Fr.one _ o 2 c) (fun _ _ h => h)

set_option maxRecDepth 100000 in
set_option maxHeartbeats 2000000 in
theorem end_ended {p W H d s : Nat} (w : World) (hp : PgEnd w p W H d s) :
    Calls Try.prog 16 #[.pointer (some ⟨p, 0, none⟩)] w fun e w' => e = .returned (.tuple #[.agg #[.int .i64 0, .int .i64 0, .slice none 0 0], .int .i64 151]) ∧ Fr (fun _ => False) w w' := by
  have HE : Hid (∀ m, Calls Try.prog 32 #[.pointer (some ⟨p, 0, none⟩)] ((w.alloc (.cells #[.int .i64 0, .int .i64 0, .slice none 0 0] 38)).drewN m) fun e w'' => e = .returned (.bool true) ∧ w'' = ((w.alloc (.cells #[.int .i64 0, .int .i64 0, .slice none 0 0] 38)).drewN m)) := fun m => ended_yes (hp.kept (S := fun _ => False) (((Fr.refl _ _).alloc _).drewN m) (fun h => h))
  have HF : Hid (Fr (fun _ => False) w (w.alloc (.cells #[.int .i64 0, .int .i64 0, .slice none 0 0] 38))) := (Fr.refl _ _).alloc _
  have HZ : Hid ((w.alloc (.cells #[.int .i64 0, .int .i64 0, .slice none 0 0] 38)).heap[w.heap.size]? = some (.cells #[.int .i64 0, .int .i64 0, .slice none 0 0] 38 (0, 0))) := heap_alloc_new _ _
  clear hp
  go_enter Try.func16, Try.ntmps16
  go_wp2_with fail
  go_quiet (first | (go_at_call 32; refine Calls.quiet_of_same (HE.out _)))
  have hz : ((w.alloc (.cells #[.int .i64 0, .int .i64 0, .slice none 0 0] 38)).drewN nq).heap[w.heap.size]? = some (.cells #[.int .i64 0, .int .i64 0, .slice none 0 0] 38 (0, 0)) := HZ.out
  have HFZ : Hid (Fr (fun _ => False) w ((w.alloc (.cells #[.int .i64 0, .int .i64 0, .slice none 0 0] 38)).drewN nq)) := HF.out.drewN nq
  clear HE HZ HF
  generalize (w.alloc (.cells #[.int .i64 0, .int .i64 0, .slice none 0 0] 38)).drewN nq = wz at *
  have HZ3 : Hid ((((wz.setCell ⟨w.heap.size, 0, none⟩ (.int .i64 0)).setCell ⟨w.heap.size, 1, none⟩ (.int .i64 0)).setCell ⟨w.heap.size, 2, none⟩ (.slice none 0 0)).heap[w.heap.size]? = some (.cells #[.int .i64 0, .int .i64 0, .slice none 0 0] 38 (0, 0))) := three_set hz _ _ _
  have HF3 : Hid (Fr (fun _ => False) w (((wz.setCell ⟨w.heap.size, 0, none⟩ (.int .i64 0)).setCell ⟨w.heap.size, 1, none⟩ (.int .i64 0)).setCell ⟨w.heap.size, 2, none⟩ (.slice none 0 0))) := HFZ.out.trans (Fr.three _ _ _ _) (fun i hi e => by omega)
  obtain ⟨z0, z1, z2, zf⟩ := cell_of_three hz
  clear hz HFZ
  go_wp2_with fail
  generalize ((wz.setCell ⟨w.heap.size, 0, none⟩ (.int .i64 0)).setCell ⟨w.heap.size, 1, none⟩ (.int .i64 0)).setCell ⟨w.heap.size, 2, none⟩ (.slice none 0 0) = w5 at *
  obtain ⟨y0, y1, y2, yf⟩ := cell_of_three HZ3.out
  (try simp only [Exit.inBlock, Exit.then])
  refine bodyPost_ret (by simp [results, Try.results16, go_sem, y0, y1, y2]; rfl) rfl ?_
  exact ⟨rfl, HF3.out⟩

set_option maxRecDepth 100000 in
set_option maxHeartbeats 2000000 in
theorem end_no {p b g cap W H d s n : Nat} {P : Nat → Nat → Bool} (w : World) (hp : PgAt w p b g cap W H d s n P) (hs : s ≠ 0) (hn : n < H) :
    Calls Try.prog 16 #[.pointer (some ⟨p, 0, none⟩)] w fun e w' => e = .returned (.tuple #[.agg #[.int .i64 0, .int .i64 0, .slice none 0 0], .int .i64 151]) ∧ Fr (fun _ => False) w w' := by
  have HE : Hid (∀ m, Calls Try.prog 32 #[.pointer (some ⟨p, 0, none⟩)] ((w.alloc (.cells #[.int .i64 0, .int .i64 0, .slice none 0 0] 38)).drewN m) fun e w'' => e = .returned (.bool false) ∧ w'' = ((w.alloc (.cells #[.int .i64 0, .int .i64 0, .slice none 0 0] 38)).drewN m)) := fun m => ended_no (hp.kept (S := fun _ => False) (((Fr.refl _ _).alloc _).drewN m) (fun h => h) (fun h => h) (fun h => h))
  have HF : Hid (Fr (fun _ => False) w (w.alloc (.cells #[.int .i64 0, .int .i64 0, .slice none 0 0] 38))) := (Fr.refl _ _).alloc _
  have HZ : Hid ((w.alloc (.cells #[.int .i64 0, .int .i64 0, .slice none 0 0] 38)).heap[w.heap.size]? = some (.cells #[.int .i64 0, .int .i64 0, .slice none 0 0] 38 (0, 0))) := heap_alloc_new _ _
  have hb : (w.alloc (.cells #[.int .i64 0, .int .i64 0, .slice none 0 0] 38)).heap[p]? = _ := (HF.out.block p hp.lt (fun h => h)).trans hp.blk
  obtain ⟨c0, c1, c2, c3, c4, c5, cf⟩ := cell_of_six hb
  have d1 : ((s : Int) != 0) = true := by rw [bne_iff_ne]; omega
  have d2 : decide ((n : Int) < (H : Int)) = true := decide_eq_true (by omega)
  clear hp hs hb
  go_enter Try.func16, Try.ntmps16
  go_wp2_with fail
  go_quiet (first | (go_at_call 32; refine Calls.quiet_of_same (HE.out _)))
  have hz : ((w.alloc (.cells #[.int .i64 0, .int .i64 0, .slice none 0 0] 38)).drewN nq).heap[w.heap.size]? = some (.cells #[.int .i64 0, .int .i64 0, .slice none 0 0] 38 (0, 0)) := HZ.out
  have HFZ : Hid (Fr (fun _ => False) w ((w.alloc (.cells #[.int .i64 0, .int .i64 0, .slice none 0 0] 38)).drewN nq)) := HF.out.drewN nq
  clear HE HZ HF
  generalize (w.alloc (.cells #[.int .i64 0, .int .i64 0, .slice none 0 0] 38)).drewN nq = wz at *
  have HZ3 : Hid ((((wz.setCell ⟨w.heap.size, 0, none⟩ (.int .i64 0)).setCell ⟨w.heap.size, 1, none⟩ (.int .i64 0)).setCell ⟨w.heap.size, 2, none⟩ (.slice none 0 0)).heap[w.heap.size]? = some (.cells #[.int .i64 0, .int .i64 0, .slice none 0 0] 38 (0, 0))) := three_set hz _ _ _
  have HF3 : Hid (Fr (fun _ => False) w (((wz.setCell ⟨w.heap.size, 0, none⟩ (.int .i64 0)).setCell ⟨w.heap.size, 1, none⟩ (.int .i64 0)).setCell ⟨w.heap.size, 2, none⟩ (.slice none 0 0))) := HFZ.out.trans (Fr.three _ _ _ _) (fun i hi e => by omega)
  obtain ⟨z0, z1, z2, zf⟩ := cell_of_three hz
  clear hz HFZ
  go_wp2_with fail
  generalize ((wz.setCell ⟨w.heap.size, 0, none⟩ (.int .i64 0)).setCell ⟨w.heap.size, 1, none⟩ (.int .i64 0)).setCell ⟨w.heap.size, 2, none⟩ (.slice none 0 0) = w5 at *
  obtain ⟨y0, y1, y2, yf⟩ := cell_of_three HZ3.out
  (try simp only [Exit.inBlock, Exit.then])
  refine bodyPost_ret (by simp [results, Try.results16, go_sem, y0, y1, y2]; rfl) rfl ?_
  exact ⟨rfl, HF3.out⟩

theorem set_end {w : World} {p : Nat} {x y z u v t : Value} {ty : TypeId} (h : w.heap[p]? = some (.cells #[x, y, z, u, v, t] ty (0, 0))) (v' t' : Value) : ((w.setCell ⟨p, 4, none⟩ v').setCell ⟨p, 5, none⟩ t').heap[p]? = some (.cells #[x, y, z, u, v', t'] ty (0, 0)) := by
  simp [World.setCell, Array.getElem?_modify, h]

set_option maxRecDepth 100000 in
set_option maxHeartbeats 4000000 in
theorem end_ok {p b g cap W H d s n : Nat} {P : Nat → Nat → Bool} (w : World) (hp : PgAt w p b g cap W H d s n P) (hs : s = 0 ∨ n = H) :
    Calls Try.prog 16 #[.pointer (some ⟨p, 0, none⟩)] w fun e w' => ∃ g2 cap2, e = .returned (.tuple #[.agg #[.int .i64 W, .int .i64 H, .slice (some ⟨g2, 0, none⟩) (H * stride W) cap2], .int .i64 0]) ∧ RowAt w' g2 cap2 W H P ∧ PgEnd w' p W H d s ∧ Fr (fun k => k = p) w w' ∧ w.heap.size ≤ g2 := by
  have HE : Hid (∀ m, Calls Try.prog 32 #[.pointer (some ⟨p, 0, none⟩)] ((w.alloc (.cells #[.int .i64 0, .int .i64 0, .slice none 0 0] 38)).drewN m) fun e w'' => e = .returned (.bool false) ∧ w'' = ((w.alloc (.cells #[.int .i64 0, .int .i64 0, .slice none 0 0] 38)).drewN m)) := fun m => ended_no (hp.kept (S := fun _ => False) (((Fr.refl _ _).alloc _).drewN m) (fun h => h) (fun h => h) (fun h => h))
  have HF : Hid (Fr (fun _ => False) w (w.alloc (.cells #[.int .i64 0, .int .i64 0, .slice none 0 0] 38))) := (Fr.refl _ _).alloc _
  have HZ : Hid ((w.alloc (.cells #[.int .i64 0, .int .i64 0, .slice none 0 0] 38)).heap[w.heap.size]? = some (.cells #[.int .i64 0, .int .i64 0, .slice none 0 0] 38 (0, 0))) := heap_alloc_new _ _
  have HA : Hid (PgAt w p b g cap W H d s n P) := hp
  have hb : (w.alloc (.cells #[.int .i64 0, .int .i64 0, .slice none 0 0] 38)).heap[p]? = _ := (HF.out.block p hp.lt (fun h => h)).trans hp.blk
  obtain ⟨c0, c1, c2, c3, c4, c5, cf⟩ := cell_of_six hb
  have hplt := hp.lt
  have hall : ((s : Int) != 0) = false ∨ (((s : Int) != 0) = true ∧ n = H) := by
    by_cases h0 : s = 0
    · left; subst h0; rfl
    · right
      exact ⟨by rw [bne_iff_ne]; omega, by omega⟩
  clear hp hs hb
  rcases hall with d1 | ⟨d1, rfl⟩
  · go_enter Try.func16, Try.ntmps16
    go_wp2_with fail
    go_quiet (first | (go_at_call 32; refine Calls.quiet_of_same (HE.out _)))
    have hz : ((w.alloc (.cells #[.int .i64 0, .int .i64 0, .slice none 0 0] 38)).drewN nq).heap[w.heap.size]? = some (.cells #[.int .i64 0, .int .i64 0, .slice none 0 0] 38 (0, 0)) := HZ.out
    have HFZ : Hid (Fr (fun _ => False) w ((w.alloc (.cells #[.int .i64 0, .int .i64 0, .slice none 0 0] 38)).drewN nq)) := HF.out.drewN nq
    clear HE HZ HF c0 c1 c2 c3 c4 c5 cf d1
    generalize (w.alloc (.cells #[.int .i64 0, .int .i64 0, .slice none 0 0] 38)).drewN nq = wz at *
    have HAZ : Hid (PgAt wz p b g cap W H d s n P) := HA.out.kept HFZ.out (fun h => h) (fun h => h) (fun h => h)
    obtain ⟨c0, c1, c2, c3, c4, c5, cf⟩ := cell_of_six HAZ.out.blk
    go_wp2_with fail
    refine (plain_any b g cap W H P wz HAZ.out.map).mono ?_
    rintro e w3 ⟨g2, cap2, rfl, ho, hf3, hg2⟩
    have HO3 : Hid (RowAt w3 g2 cap2 W H P) := ho
    have HF3 : Hid (Fr (fun _ => False) wz w3) := hf3
    have hzs : w.heap.size < wz.heap.size := lt_of_block hz
    have hz3 : w3.heap[w.heap.size]? = _ := (hf3.block _ hzs (fun h => h)).trans hz
    have hsz : wz.heap.size ≤ w3.heap.size := hf3.size
    have hg3 : g2 < w3.heap.size := HO3.out.lt
    have HA3 : Hid (PgAt w3 p b g cap W H d s n P) := HAZ.out.kept hf3 (fun h => h) (fun h => h) (fun h => h)
    clear ho hf3 c0 c1 c2 c3 c4 c5 cf
    have HB4 : Hid ((w3.alloc (.cells #[.int .i64 W, .int .i64 H, .slice (some ⟨g2, 0, none⟩) (H * stride W) cap2] 38)).heap[w3.heap.size]? = some (.cells #[.int .i64 W, .int .i64 H, .slice (some ⟨g2, 0, none⟩) (H * stride W) cap2] 38 (0, 0))) := heap_alloc_new _ _
    have HF4 : Hid (Fr (fun _ => False) w3 (w3.alloc (.cells #[.int .i64 W, .int .i64 H, .slice (some ⟨g2, 0, none⟩) (H * stride W) cap2] 38))) := (Fr.refl _ _).alloc _
    have hP4 : (w3.alloc (.cells #[.int .i64 W, .int .i64 H, .slice (some ⟨g2, 0, none⟩) (H * stride W) cap2] 38)).heap[p]? = _ := (HF4.out.block p HA3.out.lt (fun h => h)).trans HA3.out.blk
    have hz4 : (w3.alloc (.cells #[.int .i64 W, .int .i64 H, .slice (some ⟨g2, 0, none⟩) (H * stride W) cap2] 38)).heap[w.heap.size]? = some (.cells #[.int .i64 0, .int .i64 0, .slice none 0 0] 38 (0, 0)) := (HF4.out.block _ (lt_of_block hz3) (fun h => h)).trans hz3
    have hn1 : p ≠ w3.heap.size := by omega
    have hn2 : w.heap.size ≠ p := by omega
    have hn3 : w.heap.size ≠ w3.heap.size := by omega
    obtain ⟨c0, c1, c2, c3, c4, c5, cf⟩ := cell_of_six hP4
    obtain ⟨m0, m1, m2, mf⟩ := cell_of_three HB4.out
    obtain ⟨z0, z1, z2, zf⟩ := cell_of_three hz4
    have HP5 : Hid ((((w3.alloc (.cells #[.int .i64 W, .int .i64 H, .slice (some ⟨g2, 0, none⟩) (H * stride W) cap2] 38)).setCell ⟨p, 4, none⟩ (.int .i64 H)).setCell ⟨p, 5, none⟩ (.pointer none)).heap[p]? = some (.cells #[.int .i64 W, .int .i64 H, .int .i64 d, .int .i64 s, .int .i64 H, .pointer none] 61 (0, 0))) := set_end hP4 _ _
    have HF5 : Hid (Fr (fun k => k = p) (w3.alloc (.cells #[.int .i64 W, .int .i64 H, .slice (some ⟨g2, 0, none⟩) (H * stride W) cap2] 38)) (((w3.alloc (.cells #[.int .i64 W, .int .i64 H, .slice (some ⟨g2, 0, none⟩) (H * stride W) cap2] 38)).setCell ⟨p, 4, none⟩ (.int .i64 H)).setCell ⟨p, 5, none⟩ (.pointer none))) := (Fr.one _ p 4 _).trans (Fr.one _ p 5 _) (fun _ _ h => h)
    have HZ4 : Hid ((w3.alloc (.cells #[.int .i64 W, .int .i64 H, .slice (some ⟨g2, 0, none⟩) (H * stride W) cap2] 38)).heap[w.heap.size]? = some (.cells #[.int .i64 0, .int .i64 0, .slice none 0 0] 38 (0, 0))) := hz4
    clear hP4 hz4 hz3 hz
    generalize hNN : H * stride W = N at *
    go_upto_region 5 with (fail)
    have HF5z : Hid (Fr (fun k => k = p) w (((w3.alloc (.cells #[.int .i64 W, .int .i64 H, .slice (some ⟨g2, 0, none⟩) N cap2] 38)).setCell ⟨p, 4, none⟩ (.int .i64 H)).setCell ⟨p, 5, none⟩ (.pointer none))) := (Fr.mono ((HFZ.out.trans HF3.out (fun _ _ h => h)).trans HF4.out (fun _ _ h => h)) (fun _ _ h => h.elim)).trans HF5.out (fun _ _ h => h)
    have hb5 : (((w3.alloc (.cells #[.int .i64 W, .int .i64 H, .slice (some ⟨g2, 0, none⟩) N cap2] 38)).setCell ⟨p, 4, none⟩ (.int .i64 H)).setCell ⟨p, 5, none⟩ (.pointer none)).heap[w3.heap.size]? = _ := (HF5.out.block _ (lt_of_block HB4.out) (by omega)).trans HB4.out
    have hz5 : (((w3.alloc (.cells #[.int .i64 W, .int .i64 H, .slice (some ⟨g2, 0, none⟩) N cap2] 38)).setCell ⟨p, 4, none⟩ (.int .i64 H)).setCell ⟨p, 5, none⟩ (.pointer none)).heap[w.heap.size]? = _ := (HF5.out.block _ (lt_of_block HZ4.out) (by omega)).trans HZ4.out
    have HO5 : Hid (RowAt (((w3.alloc (.cells #[.int .i64 W, .int .i64 H, .slice (some ⟨g2, 0, none⟩) N cap2] 38)).setCell ⟨p, 4, none⟩ (.int .i64 H)).setCell ⟨p, 5, none⟩ (.pointer none)) g2 cap2 W H P) := (HO3.out.kept HF4.out (fun h => h)).kept HF5.out (by omega)
    clear c0 c1 c2 c3 c4 c5 cf m0 m1 m2 mf z0 z1 z2 zf HF5 HB4 HZ4 HF4 HO3
    generalize ((w3.alloc (.cells #[.int .i64 W, .int .i64 H, .slice (some ⟨g2, 0, none⟩) N cap2] 38)).setCell ⟨p, 4, none⟩ (.int .i64 H)).setCell ⟨p, 5, none⟩ (.pointer none) = w5 at *
    obtain ⟨m0, m1, m2, mf⟩ := cell_of_three hb5
    obtain ⟨z0, z1, z2, zf⟩ := cell_of_three hz5
    have hb6 := three_set hz5 (.int .i64 W) (.int .i64 H) (.slice (some ⟨g2, 0, none⟩) N cap2)
    have HF6 : Hid (Fr (fun k => k = w.heap.size) w5 (((w5.setCell ⟨w.heap.size, 0, none⟩ (.int .i64 W)).setCell ⟨w.heap.size, 1, none⟩ (.int .i64 H)).setCell ⟨w.heap.size, 2, none⟩ (.slice (some ⟨g2, 0, none⟩) N cap2))) := Fr.three _ _ _ _
    have HB6 : Hid ((((w5.setCell ⟨w.heap.size, 0, none⟩ (.int .i64 W)).setCell ⟨w.heap.size, 1, none⟩ (.int .i64 H)).setCell ⟨w.heap.size, 2, none⟩ (.slice (some ⟨g2, 0, none⟩) N cap2)).heap[w.heap.size]? = some (.cells #[.int .i64 W, .int .i64 H, .slice (some ⟨g2, 0, none⟩) N cap2] 38 (0, 0))) := hb6
    clear hb5 hz5 hb6
    go_wp2_with fail
    generalize ((w5.setCell ⟨w.heap.size, 0, none⟩ (.int .i64 W)).setCell ⟨w.heap.size, 1, none⟩ (.int .i64 H)).setCell ⟨w.heap.size, 2, none⟩ (.slice (some ⟨g2, 0, none⟩) N cap2) = w6 at *
    obtain ⟨y0, y1, y2, yf⟩ := cell_of_three HB6.out
    (try simp only [Exit.inBlock, Exit.then])
    refine bodyPost_ret (by simp [results, Try.results16, go_sem, y0, y1, y2]; rfl) rfl ?_
    refine ⟨g2, cap2, by rw [hNN], HO5.out.kept HF6.out (by omega), ?_, ?_, by omega⟩
    · unfold PgEnd
      rw [HF6.out.block p (lt_of_block HP5.out) (by omega)]; exact HP5.out
    · exact HF5z.out.trans HF6.out (fun i hi e => by omega)
  · go_enter Try.func16, Try.ntmps16
    go_wp2_with fail
    go_quiet (first | (go_at_call 32; refine Calls.quiet_of_same (HE.out _)))
    have hz : ((w.alloc (.cells #[.int .i64 0, .int .i64 0, .slice none 0 0] 38)).drewN nq).heap[w.heap.size]? = some (.cells #[.int .i64 0, .int .i64 0, .slice none 0 0] 38 (0, 0)) := HZ.out
    have HFZ : Hid (Fr (fun _ => False) w ((w.alloc (.cells #[.int .i64 0, .int .i64 0, .slice none 0 0] 38)).drewN nq)) := HF.out.drewN nq
    clear HE HZ HF c0 c1 c2 c3 c4 c5 cf d1
    generalize (w.alloc (.cells #[.int .i64 0, .int .i64 0, .slice none 0 0] 38)).drewN nq = wz at *
    have HAZ : Hid (PgAt wz p b g cap W n d s n P) := HA.out.kept HFZ.out (fun h => h) (fun h => h) (fun h => h)
    obtain ⟨c0, c1, c2, c3, c4, c5, cf⟩ := cell_of_six HAZ.out.blk
    go_wp2_with fail
    refine (plain_any b g cap W n P wz HAZ.out.map).mono ?_
    rintro e w3 ⟨g2, cap2, rfl, ho, hf3, hg2⟩
    have HO3 : Hid (RowAt w3 g2 cap2 W n P) := ho
    have HF3 : Hid (Fr (fun _ => False) wz w3) := hf3
    have hzs : w.heap.size < wz.heap.size := lt_of_block hz
    have hz3 : w3.heap[w.heap.size]? = _ := (hf3.block _ hzs (fun h => h)).trans hz
    have hsz : wz.heap.size ≤ w3.heap.size := hf3.size
    have hg3 : g2 < w3.heap.size := HO3.out.lt
    have HA3 : Hid (PgAt w3 p b g cap W n d s n P) := HAZ.out.kept hf3 (fun h => h) (fun h => h) (fun h => h)
    clear ho hf3 c0 c1 c2 c3 c4 c5 cf
    have HB4 : Hid ((w3.alloc (.cells #[.int .i64 W, .int .i64 n, .slice (some ⟨g2, 0, none⟩) (n * stride W) cap2] 38)).heap[w3.heap.size]? = some (.cells #[.int .i64 W, .int .i64 n, .slice (some ⟨g2, 0, none⟩) (n * stride W) cap2] 38 (0, 0))) := heap_alloc_new _ _
    have HF4 : Hid (Fr (fun _ => False) w3 (w3.alloc (.cells #[.int .i64 W, .int .i64 n, .slice (some ⟨g2, 0, none⟩) (n * stride W) cap2] 38))) := (Fr.refl _ _).alloc _
    have hP4 : (w3.alloc (.cells #[.int .i64 W, .int .i64 n, .slice (some ⟨g2, 0, none⟩) (n * stride W) cap2] 38)).heap[p]? = _ := (HF4.out.block p HA3.out.lt (fun h => h)).trans HA3.out.blk
    have hz4 : (w3.alloc (.cells #[.int .i64 W, .int .i64 n, .slice (some ⟨g2, 0, none⟩) (n * stride W) cap2] 38)).heap[w.heap.size]? = some (.cells #[.int .i64 0, .int .i64 0, .slice none 0 0] 38 (0, 0)) := (HF4.out.block _ (lt_of_block hz3) (fun h => h)).trans hz3
    have hn1 : p ≠ w3.heap.size := by omega
    have hn2 : w.heap.size ≠ p := by omega
    have hn3 : w.heap.size ≠ w3.heap.size := by omega
    obtain ⟨c0, c1, c2, c3, c4, c5, cf⟩ := cell_of_six hP4
    obtain ⟨m0, m1, m2, mf⟩ := cell_of_three HB4.out
    obtain ⟨z0, z1, z2, zf⟩ := cell_of_three hz4
    have HP5 : Hid ((((w3.alloc (.cells #[.int .i64 W, .int .i64 n, .slice (some ⟨g2, 0, none⟩) (n * stride W) cap2] 38)).setCell ⟨p, 4, none⟩ (.int .i64 n)).setCell ⟨p, 5, none⟩ (.pointer none)).heap[p]? = some (.cells #[.int .i64 W, .int .i64 n, .int .i64 d, .int .i64 s, .int .i64 n, .pointer none] 61 (0, 0))) := set_end hP4 _ _
    have HF5 : Hid (Fr (fun k => k = p) (w3.alloc (.cells #[.int .i64 W, .int .i64 n, .slice (some ⟨g2, 0, none⟩) (n * stride W) cap2] 38)) (((w3.alloc (.cells #[.int .i64 W, .int .i64 n, .slice (some ⟨g2, 0, none⟩) (n * stride W) cap2] 38)).setCell ⟨p, 4, none⟩ (.int .i64 n)).setCell ⟨p, 5, none⟩ (.pointer none))) := (Fr.one _ p 4 _).trans (Fr.one _ p 5 _) (fun _ _ h => h)
    have HZ4 : Hid ((w3.alloc (.cells #[.int .i64 W, .int .i64 n, .slice (some ⟨g2, 0, none⟩) (n * stride W) cap2] 38)).heap[w.heap.size]? = some (.cells #[.int .i64 0, .int .i64 0, .slice none 0 0] 38 (0, 0))) := hz4
    clear hP4 hz4 hz3 hz
    generalize hNN : n * stride W = N at *
    go_upto_region 5 with (fail)
    have HF5z : Hid (Fr (fun k => k = p) w (((w3.alloc (.cells #[.int .i64 W, .int .i64 n, .slice (some ⟨g2, 0, none⟩) N cap2] 38)).setCell ⟨p, 4, none⟩ (.int .i64 n)).setCell ⟨p, 5, none⟩ (.pointer none))) := (Fr.mono ((HFZ.out.trans HF3.out (fun _ _ h => h)).trans HF4.out (fun _ _ h => h)) (fun _ _ h => h.elim)).trans HF5.out (fun _ _ h => h)
    have hb5 : (((w3.alloc (.cells #[.int .i64 W, .int .i64 n, .slice (some ⟨g2, 0, none⟩) N cap2] 38)).setCell ⟨p, 4, none⟩ (.int .i64 n)).setCell ⟨p, 5, none⟩ (.pointer none)).heap[w3.heap.size]? = _ := (HF5.out.block _ (lt_of_block HB4.out) (by omega)).trans HB4.out
    have hz5 : (((w3.alloc (.cells #[.int .i64 W, .int .i64 n, .slice (some ⟨g2, 0, none⟩) N cap2] 38)).setCell ⟨p, 4, none⟩ (.int .i64 n)).setCell ⟨p, 5, none⟩ (.pointer none)).heap[w.heap.size]? = _ := (HF5.out.block _ (lt_of_block HZ4.out) (by omega)).trans HZ4.out
    have HO5 : Hid (RowAt (((w3.alloc (.cells #[.int .i64 W, .int .i64 n, .slice (some ⟨g2, 0, none⟩) N cap2] 38)).setCell ⟨p, 4, none⟩ (.int .i64 n)).setCell ⟨p, 5, none⟩ (.pointer none)) g2 cap2 W n P) := (HO3.out.kept HF4.out (fun h => h)).kept HF5.out (by omega)
    clear c0 c1 c2 c3 c4 c5 cf m0 m1 m2 mf z0 z1 z2 zf HF5 HB4 HZ4 HF4 HO3
    generalize ((w3.alloc (.cells #[.int .i64 W, .int .i64 n, .slice (some ⟨g2, 0, none⟩) N cap2] 38)).setCell ⟨p, 4, none⟩ (.int .i64 n)).setCell ⟨p, 5, none⟩ (.pointer none) = w5 at *
    obtain ⟨m0, m1, m2, mf⟩ := cell_of_three hb5
    obtain ⟨z0, z1, z2, zf⟩ := cell_of_three hz5
    have hb6 := three_set hz5 (.int .i64 W) (.int .i64 n) (.slice (some ⟨g2, 0, none⟩) N cap2)
    have HF6 : Hid (Fr (fun k => k = w.heap.size) w5 (((w5.setCell ⟨w.heap.size, 0, none⟩ (.int .i64 W)).setCell ⟨w.heap.size, 1, none⟩ (.int .i64 n)).setCell ⟨w.heap.size, 2, none⟩ (.slice (some ⟨g2, 0, none⟩) N cap2))) := Fr.three _ _ _ _
    have HB6 : Hid ((((w5.setCell ⟨w.heap.size, 0, none⟩ (.int .i64 W)).setCell ⟨w.heap.size, 1, none⟩ (.int .i64 n)).setCell ⟨w.heap.size, 2, none⟩ (.slice (some ⟨g2, 0, none⟩) N cap2)).heap[w.heap.size]? = some (.cells #[.int .i64 W, .int .i64 n, .slice (some ⟨g2, 0, none⟩) N cap2] 38 (0, 0))) := hb6
    clear hb5 hz5 hb6
    go_wp2_with fail
    generalize ((w5.setCell ⟨w.heap.size, 0, none⟩ (.int .i64 W)).setCell ⟨w.heap.size, 1, none⟩ (.int .i64 n)).setCell ⟨w.heap.size, 2, none⟩ (.slice (some ⟨g2, 0, none⟩) N cap2) = w6 at *
    obtain ⟨y0, y1, y2, yf⟩ := cell_of_three HB6.out
    (try simp only [Exit.inBlock, Exit.then])
    refine bodyPost_ret (by simp [results, Try.results16, go_sem, y0, y1, y2]; rfl) rfl ?_
    refine ⟨g2, cap2, by rw [hNN], HO5.out.kept HF6.out (by omega), ?_, ?_, by omega⟩
    · unfold PgEnd
      rw [HF6.out.block p (lt_of_block HP5.out) (by omega)]; exact HP5.out
    · exact HF5z.out.trans HF6.out (fun i hi e => by omega)

end Go.Proofs.Ytejempbgpkeheaa
