/- The reference's page: Add. -/
import Derived.Test.YtejempbgpkeheaaRe
namespace Go.Proofs.Ytejempbgpkeheaa
open Go.RowKit

theorem add_laid (op : Nat) (P B : Nat → Nat → Bool) (Wb Hb : Nat) (x y : Int) (a e : Nat) : addPix op P B Wb Hb x y a e = laidG op x y Wb Hb 0 B P a e := by
  unfold addPix blitPix laidG
  by_cases h : 0 ≤ (a : Int) - x ∧ (a : Int) - x < Wb ∧ 0 ≤ (e : Int) - y ∧ (e : Int) - y < Hb
  · rw [if_pos (by omega), if_pos (by omega)]
    have e1 : 0 + ((a : Int) - x) = (a : Int) - x := by omega
    have e2 : 0 + ((e : Int) - y) = (e : Int) - y := by omega
    rw [e1, e2]
    rfl
  · rw [if_neg (by omega), if_neg (by omega)]

set_option maxRecDepth 100000 in
set_option maxHeartbeats 2000000 in
theorem radd_op (r : Nat) (x y op : Int) (a b : Int) (v : Value) (w : World) (h : opOK op = false) :
    Calls Try.prog 13 #[.pointer (some ⟨r, 0, none⟩), .int .i64 x, .int .i64 y, .int .i64 op, .agg #[.int .i64 a, .int .i64 b, v]] w fun e w' => e = .returned (.int .i64 150) ∧ Fr (fun _ => False) w w' := by
  go_enter Try.func13, Try.ntmps13
  go_wp2_with fail
  refine (rOp_any op _).mono ?_
  rintro e w1 ⟨rfl, rfl⟩
  rw [h]
  go_wp2_with fail
  go_ret
  exact ⟨rfl, (Fr.refl _ _).alloc _⟩

set_option maxRecDepth 100000 in
set_option maxHeartbeats 2000000 in
theorem radd_form (r : Nat) (x y op : Int) (a b : Int) (v : Value) (l : List Nat) (w : World) (h : opOK op = true) (ha : I64 a) (hb : I64 b) (hv : Seen w v l) (hlt : ∀ j : Nat, l[j]?.getD 0 < 18446744073709551616) (hno : validB a b l = false) :
    Calls Try.prog 13 #[.pointer (some ⟨r, 0, none⟩), .int .i64 x, .int .i64 y, .int .i64 op, .agg #[.int .i64 a, .int .i64 b, v]] w fun e w' => e = .returned (.int .i64 150) ∧ Fr (fun _ => False) w w' := by
  have HC : Hid (∀ w', Fr (fun _ => False) w w' → Calls Try.prog 21 #[.agg #[.int .i64 a, .int .i64 b, v]] w' fun e w'' => e = .returned (.bool false) ∧ Fr (fun _ => False) w' w'') := fun w' hf => by
    rw [← hno]
    exact may_any a b v l w' ha hb (hv.kept hf) hlt
  clear ha hb hv hlt hno
  go_enter Try.func13, Try.ntmps13
  go_wp2_with fail
  refine (rOp_any op _).mono ?_
  rintro e w1 ⟨rfl, rfl⟩
  rw [h]
  go_wp2_with fail
  refine (HC.out _ ((Fr.refl _ _).alloc _)).mono ?_
  rintro e w1 ⟨rfl, hf1⟩
  go_wp2_with fail
  go_ret
  exact ⟨rfl, ((Fr.refl _ _).alloc _).trans hf1 (fun _ _ h => h)⟩

theorem Bm.may {w : World} {v : Value} {W H : Nat} {P : Nat → Nat → Bool} (h : Bm w v W H P) : Calls Try.prog 21 #[.agg #[.int .i64 W, .int .i64 H, v]] w fun e w' => e = .returned (.bool true) ∧ Fr (fun _ => False) w w' := by
  obtain ⟨f1, f2, f3⟩ := size_facts h.h1 h.h2 h.h3
  have := may_any (W : Int) (H : Int) v (render W H P) w (by omega) (by omega) h.seen (fun j => render_lt' W H P j)
  rwa [render_valid W H P h.h1 h.h2 h.h3] at this

set_option maxRecDepth 100000 in
set_option maxHeartbeats 4000000 in
theorem radd_hold {w : World} {r g N W H d s n : Nat} {dn : Bool} {P : Nat → Nat → Bool} (x y op : Int) (Wb Hb : Nat) (v : Value) (B : Nat → Nat → Bool) (hp : RpAt w r g N W H d s n dn P) (h : opOK op = true) (hv : Bm w v Wb Hb B) (hno : (dn || !holdOK n s y Hb) = true) :
    Calls Try.prog 13 #[.pointer (some ⟨r, 0, none⟩), .int .i64 x, .int .i64 y, .int .i64 op, .agg #[.int .i64 Wb, .int .i64 Hb, v]] w fun e w' => e = .returned (.int .i64 151) ∧ Fr (fun _ => False) w w' := by
  obtain ⟨f1, f2, f3⟩ := size_facts hp.w1 hp.h1 hp.a1
  obtain ⟨k1, k2, k3⟩ := size_facts hv.h1 hv.h2 hv.h3
  have HN : Hid (n ≤ 1048576 ∧ s ≤ 1048576 ∧ Hb ≤ 1048576) := ⟨Nat.le_trans hp.nl f2, hp.sl, k2⟩
  have a1 : wrap64 ((n : Int) + (s : Int)) = (n : Int) + (s : Int) := wr64 (by have := HN.out; omega)
  have a2 : wrap64 ((n : Int) + (s : Int) - (Hb : Int)) = (n : Int) + (s : Int) - (Hb : Int) := wr64 (by have := HN.out; omega)
  have HC : Hid (∀ w', Fr (fun _ => False) w w' → Calls Try.prog 21 #[.agg #[.int .i64 Wb, .int .i64 Hb, v]] w' fun e w'' => e = .returned (.bool true) ∧ Fr (fun _ => False) w' w'') := fun w' hf => (hv.kept hf).may
  have HA : Hid (RpAt w r g N W H d s n dn P) := hp
  have HB : Hid (∀ w', Fr (fun _ => False) (w.alloc (.cells #[.int .i64 Wb, .int .i64 Hb, v] 38)) w' → w'.heap[w.heap.size]? = some (.cells #[.int .i64 Wb, .int .i64 Hb, v] 38 (0, 0))) := fun w' hf => by
    rw [hf.block _ (by simp) (fun h => h)]; exact heap_alloc_new _ _
  clear hp hv f1 f2 f3 k1 k2 k3
  go_enter Try.func13, Try.ntmps13
  go_wp2_with fail
  refine (rOp_any op _).mono ?_
  rintro e w1 ⟨rfl, rfl⟩
  rw [h]
  go_wp2_with fail
  refine (HC.out _ ((Fr.refl _ _).alloc _)).mono ?_
  rintro e w1 ⟨rfl, hf1⟩
  have HF0 : Hid (Fr (fun _ => False) (w.alloc (.cells #[.int .i64 Wb, .int .i64 Hb, v] 38)) w1) := hf1
  have HF1 : Hid (Fr (fun _ => False) w w1) := ((Fr.refl _ _).alloc _).trans hf1 (fun _ _ h => h)
  obtain ⟨m0, m1, m2, mf⟩ := cell_of_three (HB.out w1 hf1)
  obtain ⟨c0, c1, c2, c3, c4, c5, c6, c7, c8, cf⟩ := cell_of_nine (HA.out.same HF1.out).blk
  clear hf1 mf cf HC
  go_wp2_with fail
  cases dn with
  | true =>
    go_quiet (fail)
    go_wp2_with fail
    go_ret
    exact ⟨rfl, HF1.out.drewN _⟩
  | false =>
    by_cases g1 : y < (n : Int)
    · have d1 : decide (y < (n : Int)) = true := decide_eq_true g1
      clear hno
      go_quiet (fail)
      go_wp2_with fail
      go_ret
      exact ⟨rfl, HF1.out.drewN _⟩
    · have d1 : decide (y < (n : Int)) = false := decide_eq_false g1
      have g2 : 0 < s ∧ (n : Int) + (s : Int) - (Hb : Int) < y := by
        simp only [Bool.false_or, Bool.not_eq_true', holdOK, decide_eq_false_iff_not] at hno
        omega
      have d2 : decide ((0 : Int) < (s : Int)) = true := decide_eq_true (by omega)
      have d2' : decide (0 < s) = true := decide_eq_true g2.1
      have d3 : decide ((n : Int) + (s : Int) - (Hb : Int) < y) = true := decide_eq_true g2.2
      clear hno
      go_quiet (fail)
      go_wp2_with fail
      go_ret
      exact ⟨rfl, HF1.out.drewN _⟩

set_option maxRecDepth 100000 in
set_option maxHeartbeats 4000000 in
theorem radd_ok {w : World} {r g N W H d s n : Nat} {P : Nat → Nat → Bool} (x y : Int) (op : Nat) (Wb Hb : Nat) (v : Value) (B : Nat → Nat → Bool) (hp : RpAt w r g N W H d s n false P) (hop : op ≤ 4) (hv : ∀ w', Fr (fun k => k = g) w w' → Bm w' v Wb Hb B) (hx : I64 x) (hy : I64 y) (hok : holdOK n s y Hb = true) :
    Calls Try.prog 13 #[.pointer (some ⟨r, 0, none⟩), .int .i64 x, .int .i64 y, .int .i64 op, .agg #[.int .i64 Wb, .int .i64 Hb, v]] w fun e w' => e = .returned (.int .i64 0) ∧ RpAt w' r g N W H d s n false (addPix op P B Wb Hb x y) ∧ Fr (fun k => k = g) w w' := by
  have h : opOK (op : Int) = true := by unfold opOK; refine decide_eq_true ?_; omega
  have HVV : Hid (∀ w', Fr (fun k => k = g) w w' → Bm w' v Wb Hb B) := hv
  replace hv := hv w (Fr.refl _ _)
  obtain ⟨f1, f2, f3⟩ := size_facts hp.w1 hp.h1 hp.a1
  obtain ⟨k1, k2, k3⟩ := size_facts hv.h1 hv.h2 hv.h3
  have HN : Hid (n ≤ 1048576 ∧ s ≤ 1048576 ∧ Hb ≤ 1048576) := ⟨Nat.le_trans hp.nl f2, hp.sl, k2⟩
  have a1 : wrap64 ((n : Int) + (s : Int)) = (n : Int) + (s : Int) := wr64 (by have := HN.out; omega)
  have a2 : wrap64 ((n : Int) + (s : Int) - (Hb : Int)) = (n : Int) + (s : Int) - (Hb : Int) := wr64 (by have := HN.out; omega)
  have HC : Hid (∀ w', Fr (fun _ => False) w w' → Calls Try.prog 21 #[.agg #[.int .i64 Wb, .int .i64 Hb, v]] w' fun e w'' => e = .returned (.bool true) ∧ Fr (fun _ => False) w' w'') := fun w' hf => (hv.kept hf).may
  have HA : Hid (RpAt w r g N W H d s n false P) := hp
  have HB : Hid (∀ w', Fr (fun _ => False) (w.alloc (.cells #[.int .i64 Wb, .int .i64 Hb, v] 38)) w' → w'.heap[w.heap.size]? = some (.cells #[.int .i64 Wb, .int .i64 Hb, v] 38 (0, 0))) := fun w' hf => by
    rw [hf.block _ (by simp) (fun h => h)]; exact heap_alloc_new _ _
  have HX : Hid (I64 x ∧ I64 y ∧ op ≤ 4) := ⟨hx, hy, hop⟩
  clear hp hv f1 f2 f3 k1 k2 k3 hx hy hop
  go_enter Try.func13, Try.ntmps13
  go_wp2_with fail
  refine (rOp_any op _).mono ?_
  rintro e w1 ⟨rfl, rfl⟩
  rw [h]
  go_wp2_with fail
  refine (HC.out _ ((Fr.refl _ _).alloc _)).mono ?_
  rintro e w1 ⟨rfl, hf1⟩
  have HF0 : Hid (Fr (fun _ => False) (w.alloc (.cells #[.int .i64 Wb, .int .i64 Hb, v] 38)) w1) := hf1
  have HF1 : Hid (Fr (fun _ => False) w w1) := ((Fr.refl _ _).alloc _).trans hf1 (fun _ _ h => h)
  obtain ⟨m0, m1, m2, mf⟩ := cell_of_three (HB.out w1 hf1)
  obtain ⟨c0, c1, c2, c3, c4, c5, c6, c7, c8, cf⟩ := cell_of_nine (HA.out.same HF1.out).blk
  clear hf1 mf cf HC
  simp only [holdOK, decide_eq_true_eq] at hok
  obtain ⟨g1, g2⟩ := hok
  have d1 : decide (y < (n : Int)) = false := decide_eq_false (by omega)
  have hall : (decide ((0 : Int) < (s : Int)) = false ∧ decide (0 < s) = false) ∨ ((decide ((0 : Int) < (s : Int)) = true ∧ decide (0 < s) = true) ∧ decide ((n : Int) + (s : Int) - (Hb : Int) < y) = false) := by
    by_cases h0 : s = 0
    · left
      exact ⟨decide_eq_false (by omega), decide_eq_false (by omega)⟩
    · right
      exact ⟨⟨decide_eq_true (by omega), decide_eq_true (by omega)⟩, decide_eq_false (by omega)⟩
  clear g1 g2
  have HR1 : Hid (RpAt w1 r g N W H d s n false P) := HA.out.same HF1.out
  have HLT : Hid (r ≠ g ∧ g < w.heap.size) := ⟨HA.out.rg, HA.out.row.lt⟩
  have HB1 : Hid (w1.heap[w.heap.size]? = some (.cells #[.int .i64 Wb, .int .i64 Hb, v] 38 (0, 0))) := HB.out w1 HF0.out
  clear HA HB HF0
  go_wp2_with fail
  rcases hall with ⟨d2, d2'⟩ | ⟨⟨d2, d2'⟩, d3⟩
  · go_quiet (fail)
    go_wp2_with fail
    have HR2 : Hid (RpAt (w1.drewN nq) r g N W H d s n false P) := HR1.out.same ((Fr.refl _ _).drewN _)
    have HF2 : Hid (Fr (fun _ => False) w (w1.drewN nq)) := HF1.out.drewN _
    have HB2 : Hid ((w1.drewN nq).heap[w.heap.size]? = some (.cells #[.int .i64 Wb, .int .i64 Hb, v] 38 (0, 0))) := HB1.out
    clear HR1 HF1 HB1 m0 m1 m2 c0 c1 c2 c3 c4 c5 c6 c7 c8
    generalize w1.drewN nq = w3 at *
    have HLY : Hid (∀ w', Fr (fun _ => False) w3 w' → Calls Try.prog 24 #[.agg #[.int .i64 W, .int .i64 H, .slice (some ⟨g, 0, none⟩) N N], .int .i64 x, .int .i64 y, .int .i64 op, .agg #[.int .i64 Wb, .int .i64 Hb, v]] w' fun e w'' => e = .returned (.tuple #[]) ∧ RB w'' g N W H (addPix op P B Wb Hb x y) ∧ Fr (fun k => k = g) w' w'') := fun w' f => by
      refine (lay_rb op HX.out.2.2 W H g N P x y Wb Hb v B w' (HR2.out.row.kept f (fun h => h)) (fun w'' f2 => HVV.out w'' (((HF2.out.trans f (fun _ _ h => h)).mono (fun _ _ h => h.elim)).trans f2 (fun _ _ h => h))) HR2.out.w1 HR2.out.h1 HR2.out.a1 HX.out.1 HX.out.2.1).mono ?_
      rintro e w'' ⟨he, hr, hf⟩
      exact ⟨he, hr.pix (fun a e _ _ => (add_laid op P B Wb Hb x y a e).symm), hf⟩
    have HK : Hid (∀ w', Fr (fun k => k = g) w3 w' → w'.cell? ⟨r, 4, none⟩ = some (.int .i64 W) ∧ w'.cell? ⟨r, 5, none⟩ = some (.int .i64 H) ∧ w'.cell? ⟨r, 6, none⟩ = some (.slice (some ⟨g, 0, none⟩) N N) ∧ w'.cell? ⟨w.heap.size, 0, none⟩ = some (.int .i64 Wb) ∧ w'.cell? ⟨w.heap.size, 1, none⟩ = some (.int .i64 Hb) ∧ w'.cell? ⟨w.heap.size, 2, none⟩ = some v) := fun w' f => by
      have q := HLT.out
      obtain ⟨_, _, _, _, q4, q5, q6, _⟩ := cell_of_nine (blk_kept HR2.out.blk f q.1)
      obtain ⟨m0, m1, m2, _⟩ := cell_of_three (blk_kept HB2.out f (by omega))
      exact ⟨q4, q5, q6, m0, m1, m2⟩
    go_region_held3 (fun w' => w'.cell? ⟨r, 4, none⟩ = some (.int .i64 W) ∧ w'.cell? ⟨r, 5, none⟩ = some (.int .i64 H) ∧ w'.cell? ⟨r, 6, none⟩ = some (.slice (some ⟨g, 0, none⟩) N N) ∧ w'.cell? ⟨w.heap.size, 0, none⟩ = some (.int .i64 Wb) ∧ w'.cell? ⟨w.heap.size, 1, none⟩ = some (.int .i64 Hb) ∧ w'.cell? ⟨w.heap.size, 2, none⟩ = some v) (first | exact HK.out _ ((Fr.refl _ _).drew) | exact HK.out _ (((Fr.refl _ _).drew).trans hf5 (fun _ _ h => h))) (first | (go_at_call 24; refine (HLY.out _ ((Fr.refl _ _).drew)).mono ?_; rintro e w5 ⟨rfl, hr5, hf5⟩))
    have HF5 : Hid (Fr (fun k => k = g) w3 w5) := ((Fr.refl _ _).drew).trans hf5 (fun _ _ h => h)
    have HR5 : Hid (RB w5 g N W H (addPix op P B Wb Hb x y)) := hr5
    clear hf5 hr5 HLY HK
    go_wp2_with fail
    go_ret
    exact ⟨rfl, ⟨blk_kept HR2.out.blk HF5.out HLT.out.1, HR5.out, HR2.out.rg, HR2.out.w1, HR2.out.h1, HR2.out.a1, HR2.out.nl, HR2.out.sl⟩, (HF2.out.mono (fun _ _ h => h.elim)).trans HF5.out (fun _ _ h => h)⟩
  · go_quiet (fail)
    go_wp2_with fail
    have HR2 : Hid (RpAt (w1.drewN nq) r g N W H d s n false P) := HR1.out.same ((Fr.refl _ _).drewN _)
    have HF2 : Hid (Fr (fun _ => False) w (w1.drewN nq)) := HF1.out.drewN _
    have HB2 : Hid ((w1.drewN nq).heap[w.heap.size]? = some (.cells #[.int .i64 Wb, .int .i64 Hb, v] 38 (0, 0))) := HB1.out
    clear HR1 HF1 HB1 m0 m1 m2 c0 c1 c2 c3 c4 c5 c6 c7 c8
    generalize w1.drewN nq = w3 at *
    have HLY : Hid (∀ w', Fr (fun _ => False) w3 w' → Calls Try.prog 24 #[.agg #[.int .i64 W, .int .i64 H, .slice (some ⟨g, 0, none⟩) N N], .int .i64 x, .int .i64 y, .int .i64 op, .agg #[.int .i64 Wb, .int .i64 Hb, v]] w' fun e w'' => e = .returned (.tuple #[]) ∧ RB w'' g N W H (addPix op P B Wb Hb x y) ∧ Fr (fun k => k = g) w' w'') := fun w' f => by
      refine (lay_rb op HX.out.2.2 W H g N P x y Wb Hb v B w' (HR2.out.row.kept f (fun h => h)) (fun w'' f2 => HVV.out w'' (((HF2.out.trans f (fun _ _ h => h)).mono (fun _ _ h => h.elim)).trans f2 (fun _ _ h => h))) HR2.out.w1 HR2.out.h1 HR2.out.a1 HX.out.1 HX.out.2.1).mono ?_
      rintro e w'' ⟨he, hr, hf⟩
      exact ⟨he, hr.pix (fun a e _ _ => (add_laid op P B Wb Hb x y a e).symm), hf⟩
    have HK : Hid (∀ w', Fr (fun k => k = g) w3 w' → w'.cell? ⟨r, 4, none⟩ = some (.int .i64 W) ∧ w'.cell? ⟨r, 5, none⟩ = some (.int .i64 H) ∧ w'.cell? ⟨r, 6, none⟩ = some (.slice (some ⟨g, 0, none⟩) N N) ∧ w'.cell? ⟨w.heap.size, 0, none⟩ = some (.int .i64 Wb) ∧ w'.cell? ⟨w.heap.size, 1, none⟩ = some (.int .i64 Hb) ∧ w'.cell? ⟨w.heap.size, 2, none⟩ = some v) := fun w' f => by
      have q := HLT.out
      obtain ⟨_, _, _, _, q4, q5, q6, _⟩ := cell_of_nine (blk_kept HR2.out.blk f q.1)
      obtain ⟨m0, m1, m2, _⟩ := cell_of_three (blk_kept HB2.out f (by omega))
      exact ⟨q4, q5, q6, m0, m1, m2⟩
    go_region_held3 (fun w' => w'.cell? ⟨r, 4, none⟩ = some (.int .i64 W) ∧ w'.cell? ⟨r, 5, none⟩ = some (.int .i64 H) ∧ w'.cell? ⟨r, 6, none⟩ = some (.slice (some ⟨g, 0, none⟩) N N) ∧ w'.cell? ⟨w.heap.size, 0, none⟩ = some (.int .i64 Wb) ∧ w'.cell? ⟨w.heap.size, 1, none⟩ = some (.int .i64 Hb) ∧ w'.cell? ⟨w.heap.size, 2, none⟩ = some v) (first | exact HK.out _ ((Fr.refl _ _).drew) | exact HK.out _ (((Fr.refl _ _).drew).trans hf5 (fun _ _ h => h))) (first | (go_at_call 24; refine (HLY.out _ ((Fr.refl _ _).drew)).mono ?_; rintro e w5 ⟨rfl, hr5, hf5⟩))
    have HF5 : Hid (Fr (fun k => k = g) w3 w5) := ((Fr.refl _ _).drew).trans hf5 (fun _ _ h => h)
    have HR5 : Hid (RB w5 g N W H (addPix op P B Wb Hb x y)) := hr5
    clear hf5 hr5 HLY HK
    go_wp2_with fail
    go_ret
    exact ⟨rfl, ⟨blk_kept HR2.out.blk HF5.out HLT.out.1, HR5.out, HR2.out.rg, HR2.out.w1, HR2.out.h1, HR2.out.a1, HR2.out.nl, HR2.out.sl⟩, (HF2.out.mono (fun _ _ h => h.elim)).trans HF5.out (fun _ _ h => h)⟩

end Go.Proofs.Ytejempbgpkeheaa
