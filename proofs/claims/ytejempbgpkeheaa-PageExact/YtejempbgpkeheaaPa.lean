/- Package page: Add. -/
import Derived.Test.YtejempbgpkeheaaPn
import Derived.Test.YtejempbgpkeheaaFr2
namespace Go.Proofs.Ytejempbgpkeheaa
open Go.RowKit

theorem from_bm (W H : Nat) (v : Value) (P : Nat → Nat → Bool) (w : World) (h : Bm w v W H P) :
    Calls Try.prog 34 #[.agg #[.int .i64 W, .int .i64 H, v]] w fun e w' => ∃ b g c, e = .returned (.tuple #[.pointer (some ⟨b, 0, none⟩), .int .i64 0]) ∧ NewMap w w' b g c W H P := by
  have hpix : ∀ x y, x < W → y < H → pixOf W (render W H P) x y = P x y := by
    have hv := valid_render W H (render W H P) (by have := h.h1; omega) (length_render W H P) (fun j hj => render_rowOK W H P h.h1 j hj) (fun j => render_lt' W H P j)
    exact fun x y hx hy => (render_inj hv x y hx hy).symm
  refine (from_yes W H v (render W H P) w h.h1 h.h2 h.h3 h.seen (fun j => render_lt' W H P j) (length_render W H P) (fun j hj => render_rowOK W H P h.h1 j hj)).mono ?_
  rintro e w' ⟨b, g, c, he, hn⟩
  exact ⟨b, g, c, he, ⟨hn.at_.pix hpix, hn.fr, hn.nb, hn.ng⟩⟩

set_option maxRecDepth 100000 in
set_option maxHeartbeats 2000000 in
theorem add_op (p : Nat) (x y op : Int) (a b : Int) (v : Value) (w : World) (h : opOK op = false) :
    Calls Try.prog 11 #[.pointer (some ⟨p, 0, none⟩), .int .i64 x, .int .i64 y, .int .i64 op, .agg #[.int .i64 a, .int .i64 b, v]] w fun e w' => e = .returned (.int .i64 150) ∧ Fr (fun _ => False) w w' := by
  go_enter Try.func11, Try.ntmps11
  go_wp2_with fail
  refine (pOp_any op _).mono ?_
  rintro e w1 ⟨rfl, rfl⟩
  rw [h]
  go_wp2_with fail
  go_ret
  exact ⟨rfl, (Fr.refl _ _).alloc _⟩

set_option maxRecDepth 100000 in
set_option maxHeartbeats 2000000 in
theorem add_form (p : Nat) (x y op : Int) (a b : Int) (v : Value) (l : List Nat) (w : World) (h : opOK op = true) (ha : I64 a) (hb : I64 b) (hv : Seen w v l) (hlt : ∀ j : Nat, l[j]?.getD 0 < 18446744073709551616) (hno : validB a b l = false) :
    Calls Try.prog 11 #[.pointer (some ⟨p, 0, none⟩), .int .i64 x, .int .i64 y, .int .i64 op, .agg #[.int .i64 a, .int .i64 b, v]] w fun e w' => e = .returned (.int .i64 150) ∧ Fr (fun _ => False) w w' := by
  have HC : Hid (∀ w', Fr (fun _ => False) w w' → Calls Try.prog 31 #[.agg #[.int .i64 a, .int .i64 b, v]] w' fun e w'' => e = .returned (.bool false) ∧ Fr (fun _ => False) w' w'') := fun w' hf => by
    rw [← hno]
    exact check_any a b v l w' ha hb (hv.kept hf) hlt
  clear ha hb hv hlt hno
  go_enter Try.func11, Try.ntmps11
  go_wp2_with fail
  refine (pOp_any op _).mono ?_
  rintro e w1 ⟨rfl, rfl⟩
  rw [h]
  go_wp2_with fail
  refine (HC.out _ ((Fr.refl _ _).alloc _)).mono ?_
  rintro e w1 ⟨rfl, hf1⟩
  go_wp2_with fail
  go_ret
  exact ⟨rfl, ((Fr.refl _ _).alloc _).trans hf1 (fun _ _ h => h)⟩

set_option maxRecDepth 100000 in
set_option maxHeartbeats 2000000 in
theorem add_ended {p W H d s : Nat} (x y op : Int) (Wb Hb : Nat) (v : Value) (B : Nat → Nat → Bool) (w : World) (hp : PgEnd w p W H d s) (h : opOK op = true) (hv : Bm w v Wb Hb B) :
    Calls Try.prog 11 #[.pointer (some ⟨p, 0, none⟩), .int .i64 x, .int .i64 y, .int .i64 op, .agg #[.int .i64 Wb, .int .i64 Hb, v]] w fun e w' => e = .returned (.int .i64 151) ∧ Fr (fun _ => False) w w' := by
  have HC : Hid (∀ w', Fr (fun _ => False) w w' → Calls Try.prog 31 #[.agg #[.int .i64 Wb, .int .i64 Hb, v]] w' fun e w'' => e = .returned (.bool true) ∧ Fr (fun _ => False) w' w'') := fun w' hf => (hv.kept hf).check
  have HE : Hid (∀ w', Fr (fun _ => False) w w' → Calls Try.prog 32 #[.pointer (some ⟨p, 0, none⟩)] w' fun e w'' => e = .returned (.bool true) ∧ w'' = w') := fun w' hf => ended_yes (hp.kept hf (fun h => h))
  clear hp hv
  go_enter Try.func11, Try.ntmps11
  go_wp2_with fail
  refine (pOp_any op _).mono ?_
  rintro e w1 ⟨rfl, rfl⟩
  rw [h]
  go_wp2_with fail
  refine (HC.out _ ((Fr.refl _ _).alloc _)).mono ?_
  rintro e w1 ⟨rfl, hf1⟩
  have HF : Hid (Fr (fun _ => False) w w1) := ((Fr.refl _ _).alloc _).trans hf1 (fun _ _ h => h)
  clear hf1
  go_wp2_with fail
  refine (HE.out _ HF.out).mono ?_
  rintro e w2 ⟨rfl, rfl⟩
  go_wp2_with fail
  go_ret
  exact ⟨rfl, HF.out⟩

set_option maxRecDepth 100000 in
set_option maxHeartbeats 2000000 in
theorem add_hold {p b g cap W H d s n : Nat} {P : Nat → Nat → Bool} (x y op : Int) (Wb Hb : Nat) (v : Value) (B : Nat → Nat → Bool) (w : World) (hp : PgAt w p b g cap W H d s n P) (h : opOK op = true) (hv : Bm w v Wb Hb B) (hno : holdOK n s y Hb = false) :
    Calls Try.prog 11 #[.pointer (some ⟨p, 0, none⟩), .int .i64 x, .int .i64 y, .int .i64 op, .agg #[.int .i64 Wb, .int .i64 Hb, v]] w fun e w' => e = .returned (.int .i64 151) ∧ Fr (fun _ => False) w w' := by
  obtain ⟨f1, f2, f3⟩ := size_facts hp.map.wpos hp.map.hpos hp.map.area
  obtain ⟨k1, k2, k3⟩ := size_facts hv.h1 hv.h2 hv.h3
  have HC : Hid (∀ w', Fr (fun _ => False) w w' → Calls Try.prog 31 #[.agg #[.int .i64 Wb, .int .i64 Hb, v]] w' fun e w'' => e = .returned (.bool true) ∧ Fr (fun _ => False) w' w'') := fun w' hf => (hv.kept hf).check
  have HE : Hid (∀ w', Fr (fun _ => False) w w' → Calls Try.prog 32 #[.pointer (some ⟨p, 0, none⟩)] w' fun e w'' => e = .returned (.bool false) ∧ w'' = w') := fun w' hf => ended_no (hp.kept hf (fun h => h) (fun h => h) (fun h => h))
  have HM : Hid (∀ w', Fr (fun _ => False) w w' → Calls Try.prog 33 #[.pointer (some ⟨p, 0, none⟩), .int .i64 y, .int .i64 Hb] w' fun e w'' => e = .returned (.bool false) ∧ ∃ k, w'' = w'.drewN k) := fun w' hf => by
    rw [← hno]
    exact mayHold_any (hp.kept hf (fun h => h) (fun h => h) (fun h => h)).blk y Hb (Nat.le_trans hp.nl f2) hp.sl k2
  have HB : Hid (∀ w', Fr (fun _ => False) (w.alloc (.cells #[.int .i64 Wb, .int .i64 Hb, v] 38)) w' → w'.cell? ⟨w.heap.size, 0, none⟩ = some (.int .i64 Wb) ∧ w'.cell? ⟨w.heap.size, 1, none⟩ = some (.int .i64 Hb) ∧ w'.cell? ⟨w.heap.size, 2, none⟩ = some v) := fun w' hf => by
    have hB : w'.heap[w.heap.size]? = some (.cells #[.int .i64 Wb, .int .i64 Hb, v] 38 (0, 0)) := by
      rw [hf.block _ (by simp) (fun h => h)]; exact heap_alloc_new _ _
    obtain ⟨c0, c1, c2, _⟩ := cell_of_three hB
    exact ⟨c0, c1, c2⟩
  clear hp hv hno f1 f2 f3 k1 k2 k3
  go_enter Try.func11, Try.ntmps11
  go_wp2_with fail
  refine (pOp_any op _).mono ?_
  rintro e w1 ⟨rfl, rfl⟩
  rw [h]
  go_wp2_with fail
  refine (HC.out _ ((Fr.refl _ _).alloc _)).mono ?_
  rintro e w1 ⟨rfl, hf1⟩
  obtain ⟨c0, c1, c2⟩ := HB.out w1 hf1
  have HF : Hid (Fr (fun _ => False) w w1) := ((Fr.refl _ _).alloc _).trans hf1 (fun _ _ h => h)
  clear hf1
  go_wp2_with fail
  refine (HE.out _ HF.out).mono ?_
  rintro e w2 ⟨rfl, rfl⟩
  go_wp2_with fail
  refine (HM.out _ HF.out).mono ?_
  rintro e w2 ⟨rfl, k, rfl⟩
  go_wp2_with fail
  go_ret
  exact ⟨rfl, HF.out.drewN _⟩

/-- What Add makes of the pixels. -/
def addPix (op : Nat) (P B : Nat → Nat → Bool) (Wb Hb : Nat) (x y : Int) : Nat → Nat → Bool := blitPix (opB op) P B Wb Hb 0 0 Wb Hb x y

set_option maxRecDepth 100000 in
set_option maxHeartbeats 4000000 in
theorem add_ok {p b g cap W H d s n : Nat} {P : Nat → Nat → Bool} (x y : Int) (op : Nat) (Wb Hb : Nat) (v : Value) (B : Nat → Nat → Bool) (w : World) (hp : PgAt w p b g cap W H d s n P) (hop : op ≤ 4) (hv : Bm w v Wb Hb B) (hx : I64 x) (hy : I64 y) (hok : holdOK n s y Hb = true) :
    Calls Try.prog 11 #[.pointer (some ⟨p, 0, none⟩), .int .i64 x, .int .i64 y, .int .i64 op, .agg #[.int .i64 Wb, .int .i64 Hb, v]] w fun e w' => e = .returned (.int .i64 0) ∧ PgAt w' p b g cap W H d s n (addPix op P B Wb Hb x y) ∧ Fr (fun k => k = g) w w' := by
  obtain ⟨f1, f2, f3⟩ := size_facts hp.map.wpos hp.map.hpos hp.map.area
  obtain ⟨k1, k2, k3⟩ := size_facts hv.h1 hv.h2 hv.h3
  have h : opOK (op : Int) = true := by unfold opOK; refine decide_eq_true ?_; omega
  have HC : Hid (∀ w', Fr (fun _ => False) w w' → Calls Try.prog 31 #[.agg #[.int .i64 Wb, .int .i64 Hb, v]] w' fun e w'' => e = .returned (.bool true) ∧ Fr (fun _ => False) w' w'') := fun w' hf => (hv.kept hf).check
  have HE : Hid (∀ w', Fr (fun _ => False) w w' → Calls Try.prog 32 #[.pointer (some ⟨p, 0, none⟩)] w' fun e w'' => e = .returned (.bool false) ∧ w'' = w') := fun w' hf => ended_no (hp.kept hf (fun h => h) (fun h => h) (fun h => h))
  have HM : Hid (∀ w', Fr (fun _ => False) w w' → Calls Try.prog 33 #[.pointer (some ⟨p, 0, none⟩), .int .i64 y, .int .i64 Hb] w' fun e w'' => e = .returned (.bool true) ∧ ∃ k, w'' = w'.drewN k) := fun w' hf => by
    rw [← hok]
    exact mayHold_any (hp.kept hf (fun h => h) (fun h => h) (fun h => h)).blk y Hb (Nat.le_trans hp.nl f2) hp.sl k2
  have HFM : Hid (∀ w', Fr (fun _ => False) w w' → Calls Try.prog 34 #[.agg #[.int .i64 Wb, .int .i64 Hb, v]] w' fun e w'' => ∃ b g c, e = .returned (.tuple #[.pointer (some ⟨b, 0, none⟩), .int .i64 0]) ∧ NewMap w' w'' b g c Wb Hb B) := fun w' hf => from_bm Wb Hb v B w' (hv.kept hf)
  have HB : Hid (∀ w', Fr (fun _ => False) (w.alloc (.cells #[.int .i64 Wb, .int .i64 Hb, v] 38)) w' → w'.heap[w.heap.size]? = some (.cells #[.int .i64 Wb, .int .i64 Hb, v] 38 (0, 0))) := fun w' hf => by
    rw [hf.block _ (by simp) (fun h => h)]; exact heap_alloc_new _ _
  have HA : Hid (PgAt w p b g cap W H d s n P) := hp
  have HX : Hid (I64 x ∧ I64 y ∧ Wb ≤ 1048576 ∧ Hb ≤ 1048576 ∧ op ≤ 4) := ⟨hx, hy, k1, k2, hop⟩
  clear hp hv hok f1 f2 f3 k1 k2 k3 hx hy hop
  go_enter Try.func11, Try.ntmps11
  go_wp2_with fail
  refine (pOp_any op _).mono ?_
  rintro e w1 ⟨rfl, rfl⟩
  rw [h]
  go_wp2_with fail
  refine (HC.out _ ((Fr.refl _ _).alloc _)).mono ?_
  rintro e w1 ⟨rfl, hf1⟩
  have HF0 : Hid (Fr (fun _ => False) (w.alloc (.cells #[.int .i64 Wb, .int .i64 Hb, v] 38)) w1) := hf1
  have HF : Hid (Fr (fun _ => False) w w1) := ((Fr.refl _ _).alloc _).trans hf1 (fun _ _ h => h)
  obtain ⟨c0, c1, c2, cf⟩ := cell_of_three (HB.out w1 hf1)
  clear hf1 cf
  go_wp2_with fail
  refine (HE.out _ HF.out).mono ?_
  rintro e w2 ⟨rfl, rfl⟩
  go_wp2_with fail
  refine (HM.out _ HF.out).mono ?_
  rintro e w2 ⟨rfl, k, rfl⟩
  go_wp2_with fail
  refine (HFM.out _ (HF.out.drewN _)).mono ?_
  rintro e w3 ⟨bs, gs, cs, rfl, hnm⟩
  have HF3 : Hid (Fr (fun _ => False) w w3) := (HF.out.drewN _).trans hnm.fr (fun _ _ h => h)
  have HF30 : Hid (Fr (fun _ => False) (w.alloc (.cells #[.int .i64 Wb, .int .i64 Hb, v] 38)) w3) := (HF0.out.drewN _).trans hnm.fr (fun _ _ h => h)
  have HA3 : Hid (PgAt w3 p b g cap W H d s n P) := HA.out.kept HF3.out (fun h => h) (fun h => h) (fun h => h)
  have HNB : Hid (w.heap.size + 1 ≤ bs ∧ w.heap.size + 1 ≤ gs) := by
    have u1 := Nat.le_trans HF0.out.size hnm.nb
    have u2 := Nat.le_trans HF0.out.size hnm.ng
    simp at u1 u2
    exact ⟨by omega, by omega⟩
  have HS3 : Hid (MapAt w3 bs gs cs Wb Hb B) := hnm.at_
  have HLT : Hid (b < w.heap.size ∧ g < w.heap.size ∧ p < w.heap.size ∧ p ≠ g) := ⟨HA.out.map.lt, HA.out.map.glt, HA.out.lt, HA.out.pg⟩
  clear hnm c0 c1 c2 HF HF0 HM HE HFM HC
  have HBL : Hid (∀ w', Fr (fun _ => False) w3 w' → Calls Try.prog 35 #[.pointer (some ⟨b, 0, none⟩), .pointer (some ⟨bs, 0, none⟩), .int .i64 0, .int .i64 0, .int .i64 Wb, .int .i64 Hb, .int .i64 x, .int .i64 y, .int .i64 op] w' fun e w'' => e = .returned (.int .i64 0) ∧ MapAt w'' b g cap W H (addPix op P B Wb Hb x y) ∧ Fr (fun k => k = g) w' w'') := fun w' hf => by
    have a1 := HNB.out
    have a2 := HLT.out
    have a3 := HX.out
    exact blit_other op b g cap W H bs gs cs Wb Hb P B 0 0 Wb Hb x y w' (HA3.out.map.kept hf (fun h => h) (fun h => h)) (HS3.out.kept hf (fun h => h) (fun h => h)) a3.2.2.2.2 (layOps op a3.2.2.2.2) (by omega) (by omega) (by omega) (by omega) (by omega) (by omega) (by omega) a3.1 a3.2.1
  have HK : Hid (∀ w', Fr (fun k => k = g) w3 w' → w'.cell? ⟨p, 5, none⟩ = some (.pointer (some ⟨b, 0, none⟩)) ∧ w'.cell? ⟨w.heap.size, 0, none⟩ = some (.int .i64 Wb) ∧ w'.cell? ⟨w.heap.size, 1, none⟩ = some (.int .i64 Hb)) := fun w' hf => by
    have a2 := HLT.out
    have b1 := (hf.block p (lt_of_block HA3.out.blk) (by omega)).trans HA3.out.blk
    have b2 := (hf.block w.heap.size (lt_of_block (HB.out w3 HF30.out)) (by omega)).trans (HB.out w3 HF30.out)
    obtain ⟨_, _, _, _, _, q5, _⟩ := cell_of_six b1
    obtain ⟨q0, q1, _⟩ := cell_of_three b2
    exact ⟨q5, q0, q1⟩
  go_wp2_with fail
  go_region_held3 (fun w' => w'.cell? ⟨p, 5, none⟩ = some (.pointer (some ⟨b, 0, none⟩)) ∧ w'.cell? ⟨w.heap.size, 0, none⟩ = some (.int .i64 Wb) ∧ w'.cell? ⟨w.heap.size, 1, none⟩ = some (.int .i64 Hb)) (first | exact HK.out _ ((Fr.refl _ _).drew) | exact HK.out _ (((Fr.refl _ _).drew).trans hf5 (fun _ _ h => h))) (first | (go_at_call 35; refine (HBL.out _ ((Fr.refl _ _).drew)).mono ?_; rintro e w5 ⟨rfl, hm5, hf5⟩))
  have HF5 : Hid (Fr (fun k => k = g) w3 w5) := ((Fr.refl _ _).drew).trans hf5 (fun _ _ h => h)
  have HM5 : Hid (MapAt w5 b g cap W H (addPix op P B Wb Hb x y)) := hm5
  clear hf5 hm5 HBL HK
  go_wp2_with fail
  go_ret
  refine ⟨rfl, ⟨?_, HM5.out, HA3.out.pg, HA3.out.nl, HA3.out.sl⟩, ?_⟩
  · rw [HF5.out.block p HA3.out.lt HA3.out.pg]; exact HA3.out.blk
  · exact (Fr.mono HF3.out (fun _ _ h => h.elim)).trans HF5.out (fun _ _ h => h)

end Go.Proofs.Ytejempbgpkeheaa
