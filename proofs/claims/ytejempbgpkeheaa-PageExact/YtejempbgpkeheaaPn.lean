/- Package page: New. -/
import Derived.Test.YtejempbgpkeheaaPh
import Derived.Test.YtejempbgpkeheaaCp
namespace Go.Proofs.Ytejempbgpkeheaa
open Go.RowKit

set_option maxRecDepth 100000 in
set_option maxHeartbeats 2000000 in
theorem pnew_bad (W H d s : Int) (w : World) (hx : I64 W) (hy : I64 H) (hb : sheetOK W H d s = false) :
    Calls Try.prog 6 #[.agg #[.int .i64 W, .int .i64 H, .int .i64 d, .int .i64 s]] w fun e w' => e = .returned (.tuple #[.pointer none, .int .i64 150]) ∧ Fr (fun _ => False) w w' := by
  have HS : Hid (∀ w : World, Calls Try.prog 26 #[.agg #[.int .i64 W, .int .i64 H, .int .i64 d, .int .i64 s]] w fun e w' => e = .returned (.bool (sheetOK W H d s)) ∧ Fr (fun _ => False) w w') := fun w => pSheet_any W H d s w hx hy
  clear hx hy
  go_enter Try.func6, Try.ntmps6
  go_wp2_with fail
  refine (HS.out _).mono ?_
  rintro e w1 ⟨rfl, hf1⟩
  rw [hb]
  go_wp2_with fail
  go_ret2
  exact ⟨rfl, ((Fr.refl _ _).alloc _).trans hf1 (fun _ _ h => h)⟩

theorem Fr.one (w : World) (p o : Nat) (v : Value) : Fr (fun k => k = p) w (w.setCell ⟨p, o, none⟩ v) := Fr.setCell (p := ⟨p, o, none⟩) (Fr.refl (fun k => k = p) w) (fun _ => rfl) v

theorem set_five {w : World} {p : Nat} {x y z u v t : Value} {ty : TypeId} (h : w.heap[p]? = some (.cells #[x, y, z, u, v, t] ty (0, 0))) (t' : Value) : (w.setCell ⟨p, 5, none⟩ t').heap[p]? = some (.cells #[x, y, z, u, v, t'] ty (0, 0)) := by
  simp [World.setCell, Array.getElem?_modify, h]

set_option maxRecDepth 100000 in
set_option maxHeartbeats 4000000 in
theorem pnew_ok (W H d s : Nat) (w : World) (h1 : 1 ≤ W) (h2 : 1 ≤ H) (h3 : W * H ≤ 1048576) (hd : d ≤ 1) (hs : s ≤ 1048576) :
    Calls Try.prog 6 #[.agg #[.int .i64 W, .int .i64 H, .int .i64 d, .int .i64 s]] w fun e w' => ∃ p b g cap, e = .returned (.tuple #[.pointer (some ⟨p, 0, none⟩), .int .i64 0]) ∧ PgAt w' p b g cap W H d s 0 (fun _ _ => decide (d = 1)) ∧ Fr (fun _ => False) w w' ∧ w.heap.size ≤ p ∧ w.heap.size ≤ b ∧ w.heap.size ≤ g := by
  obtain ⟨f1, f2, f3⟩ := size_facts h1 h2 h3
  have hok : sheetOK (W : Int) (H : Int) (d : Int) (s : Int) = true := by
    have e1 : sizeOK (W : Int) (H : Int) = true := by
      unfold sizeOK
      refine decide_eq_true ⟨by omega, by omega, ?_⟩
      rw [← Int.natCast_mul]; omega
    have e2 : bitOK (d : Int) = true := by unfold bitOK; refine decide_eq_true ?_; omega
    have e3 : cntOK (s : Int) = true := by unfold cntOK; refine decide_eq_true ?_; omega
    simp [sheetOK, e1, e2, e3]
  have HS : Hid (∀ w : World, Calls Try.prog 26 #[.agg #[.int .i64 W, .int .i64 H, .int .i64 d, .int .i64 s]] w fun e w' => e = .returned (.bool true) ∧ Fr (fun _ => False) w w') := fun w => by
    rw [← hok]
    exact pSheet_any W H d s w (by constructor <;> omega) (by constructor <;> omega)
  have HN : Hid (∀ w : World, Calls Try.prog 27 #[.int .i64 W, .int .i64 H] w fun e w' => ∃ b g, e = .returned (.tuple #[.pointer (some ⟨b, 0, none⟩), .int .i64 0]) ∧ NewMap w w' b g (H * stride W) W H (fun _ _ => false)) := fun w => new_yes W H w h1 h2 h3
  have HB : Hid (d ≤ 1 ∧ s ≤ 1048576 ∧ W ≤ 1048576 ∧ H ≤ 1048576) := ⟨hd, hs, f1, f2⟩
  clear h1 h2 h3 hd hs f1 f2 f3 hok
  go_enter Try.func6, Try.ntmps6
  go_wp2_with fail
  refine (HS.out _).mono ?_
  rintro e w1 ⟨rfl, hf1⟩
  have hB1 : w1.heap[w.heap.size]? = some (.cells #[.int .i64 W, .int .i64 H, .int .i64 d, .int .i64 s] 23 (0, 0)) := by
    rw [hf1.block _ (by simp) (fun h => h)]; exact heap_alloc_new _ _
  have HF1 : Hid (Fr (fun _ => False) w w1) := ((Fr.refl _ _).alloc _).trans hf1 (fun _ _ h => h)
  obtain ⟨c0, c1, c2, c3, cf⟩ := cell_of_four hB1
  clear hB1 hf1
  go_wp2_with fail
  have HP : Hid (∀ w', Fr (fun _ => False) (w1.alloc (.cells #[.int .i64 W, .int .i64 H, .int .i64 d, .int .i64 s, .int .i64 0, .pointer none] 61)) w' → w'.heap[w1.heap.size]? = some (.cells #[.int .i64 W, .int .i64 H, .int .i64 d, .int .i64 s, .int .i64 0, .pointer none] 61 (0, 0))) := fun w' hf => by
    rw [hf.block _ (by simp) (fun h => h)]; exact heap_alloc_new _ _
  have HPC : Hid (∀ w', Fr (fun _ => False) (w1.alloc (.cells #[.int .i64 W, .int .i64 H, .int .i64 d, .int .i64 s, .int .i64 0, .pointer none] 61)) w' → w'.cell? ⟨w1.heap.size, 0, none⟩ = some (.int .i64 W) ∧ w'.cell? ⟨w1.heap.size, 1, none⟩ = some (.int .i64 H)) := fun w' hf => by
    obtain ⟨k0, k1, _⟩ := cell_of_six (HP.out w' hf)
    exact ⟨k0, k1⟩
  clear c0 c1 c2 c3 cf
  have hlt : w1.heap.size < (w1.alloc (.cells #[.int .i64 W, .int .i64 H, .int .i64 d, .int .i64 s, .int .i64 0, .pointer none] 61)).heap.size := by simp
  generalize hw2 : w1.alloc (.cells #[.int .i64 W, .int .i64 H, .int .i64 d, .int .i64 s, .int .i64 0, .pointer none] 61) = w2 at *
  go_wp2_with fail
  go_region_held3 (fun w' => w'.cell? ⟨w1.heap.size, 0, none⟩ = some (.int .i64 W) ∧ w'.cell? ⟨w1.heap.size, 1, none⟩ = some (.int .i64 H)) (first | exact HPC.out _ ((Fr.refl _ _).drew) | exact HPC.out _ (((Fr.refl _ _).drew).trans hnm.fr (fun _ _ h => h)) | exact ⟨(cell_of_six (set_five hq _)).1, (cell_of_six (set_five hq _)).2.1⟩) (first | (go_at_call 27; refine (HN.out _).mono ?_; rintro e w3 ⟨b, g, rfl, hnm⟩; (have hq := HP.out _ (((Fr.refl _ _).drew).trans hnm.fr (fun _ _ h => h))); (obtain ⟨q0, q1, q2, q3, q4, q5, qf⟩ := cell_of_six hq)))
  have hs2 : w1.heap.size < b ∧ w1.heap.size < g := by
    have u1 : w2.heap.size ≤ b := hnm.nb
    have u2 : w2.heap.size ≤ g := hnm.ng
    omega
  have HPB : Hid ((w3.setCell ⟨w1.heap.size, 5, none⟩ (.pointer (some ⟨b, 0, none⟩))).heap[w1.heap.size]? = some (.cells #[.int .i64 W, .int .i64 H, .int .i64 d, .int .i64 s, .int .i64 0, .pointer (some ⟨b, 0, none⟩)] 61 (0, 0))) := set_five hq _
  have HM : Hid (MapAt (w3.setCell ⟨w1.heap.size, 5, none⟩ (.pointer (some ⟨b, 0, none⟩))) b g (H * stride W) W H (fun _ _ => false)) := hnm.at_.kept (S := fun k => k = w1.heap.size) (Fr.one w3 w1.heap.size 5 _) (by omega) (by omega)
  have HFR : Hid (Fr (fun _ => False) w (w3.setCell ⟨w1.heap.size, 5, none⟩ (.pointer (some ⟨b, 0, none⟩)))) := by
    have u : Fr (fun _ => False) w1 (w3.setCell ⟨w1.heap.size, 5, none⟩ (.pointer (some ⟨b, 0, none⟩))) := by
      refine Fr.setCell (p := ⟨w1.heap.size, 5, none⟩) ?_ (fun hh => absurd hh (Nat.lt_irrefl _)) _
      have v : Fr (fun _ => False) w1 w2 := by rw [← hw2]; exact (Fr.refl _ _).alloc _
      exact (v.drew).trans hnm.fr (fun _ _ h => h)
    exact HF1.out.trans u (fun _ _ h => h)
  have hp0 : w.heap.size ≤ w1.heap.size := HF1.out.size
  clear q0 q1 q2 q3 q4 q5 qf hq hnm HP HPC HN HS HF1 hw2 hlt
  generalize w3.setCell ⟨w1.heap.size, 5, none⟩ (.pointer (some ⟨b, 0, none⟩)) = w4 at *
  generalize w1.heap.size = p at *
  obtain ⟨q0, q1, q2, q3, q4, q5, qf⟩ := cell_of_six HPB.out
  have HPC : Hid (∀ w', Fr (fun _ => False) w4 w' → w'.cell? ⟨p, 0, none⟩ = some (.int .i64 W) ∧ w'.cell? ⟨p, 1, none⟩ = some (.int .i64 H) ∧ w'.cell? ⟨p, 2, none⟩ = some (.int .i64 d) ∧ w'.cell? ⟨p, 5, none⟩ = some (.pointer (some ⟨b, 0, none⟩))) := fun w' hf => by
    have hb : w'.heap[p]? = _ := (hf.block p (lt_of_block HPB.out) (fun h => h)).trans HPB.out
    obtain ⟨k0, k1, k2, k3, k4, k5, _⟩ := cell_of_six hb
    exact ⟨k0, k1, k2, k5⟩
  have HFL : Hid (∀ w', Fr (fun _ => False) w4 w' → Calls Try.prog 28 #[.pointer (some ⟨b, 0, none⟩), .int .i64 0, .int .i64 0, .int .i64 W, .int .i64 H, .int .i64 d] w' fun e w'' => e = .returned (.int .i64 0) ∧ MapAt w'' b g (H * stride W) W H (fillPix (fun _ _ => false) 0 0 W H (decide (d = 1))) ∧ Fr (fun k => k = g) w' w'') := fun w' hf => by
    have hb := HB.out
    exact fill_any b g (H * stride W) W H d _ 0 0 W H w' (HM.out.kept hf (fun h => h) (fun h => h)) hb.1 (by omega) (by omega) (by omega) (by omega)
  have HK5 : Hid (∀ w5, Fr (fun k => k = g) w4.drew w5 → w5.cell? ⟨p, 0, none⟩ = some (.int .i64 W) ∧ w5.cell? ⟨p, 1, none⟩ = some (.int .i64 H) ∧ w5.cell? ⟨p, 2, none⟩ = some (.int .i64 d) ∧ w5.cell? ⟨p, 5, none⟩ = some (.pointer (some ⟨b, 0, none⟩))) := fun w5 hf5 => by
    obtain ⟨k0, k1, k2, k3, k4, k5, _⟩ := cell_of_six ((hf5.block p (lt_of_block HPB.out) (by omega)).trans HPB.out)
    exact ⟨k0, k1, k2, k5⟩
  clear q0 q1 q2 q3 q4 q5 qf
  go_wp2_with fail
  go_region_held3 (fun w' => w'.cell? ⟨p, 0, none⟩ = some (.int .i64 W) ∧ w'.cell? ⟨p, 1, none⟩ = some (.int .i64 H) ∧ w'.cell? ⟨p, 2, none⟩ = some (.int .i64 d) ∧ w'.cell? ⟨p, 5, none⟩ = some (.pointer (some ⟨b, 0, none⟩))) (first | exact HPC.out _ ((Fr.refl _ _).drew) | exact HPC.out _ (((Fr.refl _ _).drew).trans hf5 (fun _ _ h => h)) | exact hk5) (first | (go_at_call 28; refine (HFL.out _ ((Fr.refl _ _).drew)).mono ?_; rintro e w5 ⟨rfl, hm5, hf5⟩; (have hk5 := HK5.out _ hf5)))
  have HF5 : Hid (Fr (fun k => k = g) w4 w5) := ((Fr.refl _ _).drew).trans hf5 (fun _ _ h => h)
  have HM5 : Hid (MapAt w5 b g (H * stride W) W H (fun _ _ => decide (d = 1))) := hm5.pix (fun x y hx hy => by simp only [fillPix]; rw [if_pos (by omega)])
  clear hf5 hm5 HFL HPC hk5
  go_wp2_with fail
  go_ret2
  refine ⟨p, b, g, _, rfl, ⟨?_, HM5.out, by omega, Nat.zero_le _, HB.out.2.1⟩, ?_, hp0, by omega, by omega⟩
  · rw [HF5.out.block p (lt_of_block HPB.out) (by omega)]; exact HPB.out
  · exact HFR.out.trans HF5.out (fun i hi e => by omega)

end Go.Proofs.Ytejempbgpkeheaa
