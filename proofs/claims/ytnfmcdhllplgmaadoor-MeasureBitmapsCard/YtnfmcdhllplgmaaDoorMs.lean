/- The reference's Density, and its Unlike. -/
import Derived.Test.YtnfmcdhllplgmaaDoorMx
namespace Go.Proofs.YtnfmcdhllplgmaaDoor
open Go.RowKit Ieee

set_option maxRecDepth 100000 in
set_option maxHeartbeats 2000000 in
theorem rdensity_ok (W H : Nat) (v : Value) (P : Nat → Nat → Bool) (w : World) (hv : Vb w v W H P) :
    Calls Tryd.prog 13 #[.agg #[.int .i64 W, .int .i64 H, v]] w fun e w' => ∃ x, e = .returned (.float .f64 x) ∧ ShP ((cnt W H P : Nat) : Int) ((W * H : Nat) : Int) x ∧ Fr (fun _ => False) w w' := by
  have a4 := hv.area
  obtain ⟨a1, a2, a3⟩ := hv.le
  have bC := cnt_area hv
  have HD0 : ∀ K M : Nat, K ≤ 1048576 → ∀ w', Calls Tryd.prog 24 #[.int .i64 (K : Int), .int .i64 (M : Int)] w' fun e w'' => ∃ x, e = .returned (.float .f64 x) ∧ ShP (K : Int) (M : Int) x ∧ Fr (fun _ => False) w' w'' := fun K M h1 w' => divide_nat K M (by omega) w'
  have HD1 := HD0 (cnt W H P) (W * H) bC
  have HD : Hid _ := HD1
  have HCN : Hid (∀ w', Fr (fun _ => False) w w' → Calls Tryd.prog 26 #[.agg #[.int .i64 W, .int .i64 H, v]] w' fun e w'' => e = .returned (.int .i64 (cnt W H P : Nat)) ∧ Fr (fun _ => False) w' w'') := fun w' f => zcount_any W H v P w' (hv.kept f).seen hv.w1 hv.h1 hv.area
  clear HD0 HD1 hv bC
  have hmul : ((W : Int) * (H : Int)) = ((W * H : Nat) : Int) := by rw [Int.natCast_mul]
  generalize W * H = M at *
  generalize cnt W H P = K at *
  have HA : Hid (Fr (fun _ => False) w (w.alloc (.cells #[.int .i64 W, .int .i64 H, v] 25))) := (Fr.refl _ _).alloc _
  have HBX : Hid (∀ w', Fr (fun _ => False) (w.alloc (.cells #[.int .i64 W, .int .i64 H, v] 25)) w' → w'.cell? ⟨w.heap.size, 0, none⟩ = some (.int .i64 W) ∧ w'.cell? ⟨w.heap.size, 1, none⟩ = some (.int .i64 H) ∧ w'.cell? ⟨w.heap.size, 2, none⟩ = some v) := fun w' hf => cells3_of hf
  obtain ⟨c0, c1, c2⟩ := HBX.out _ (Fr.refl _ _)
  go_enter Tryd.func13, Tryd.ntmps13
  go_wp2_with fail
  generalize w.alloc (.cells #[.int .i64 W, .int .i64 H, v] 25) = w0 at *
  have hw1 : IntKind.i64.wrap ((W : Int) * (H : Int)) = (M : Int) := by rw [hmul, IntKind.wrap_i64]; omega
  have hw3 : IntKind.i64.wrap (M : Int) = (M : Int) := by rw [IntKind.wrap_i64]; omega
  have hw2 : wrap64 ((W : Int) * (H : Int)) = (M : Int) := by rw [hmul]; unfold wrap64; omega
  go_region_held3 (fun w' => w'.cell? ⟨w.heap.size, 0, none⟩ = some (.int .i64 W) ∧ w'.cell? ⟨w.heap.size, 1, none⟩ = some (.int .i64 H) ∧ w'.cell? ⟨w.heap.size, 2, none⟩ = some v) (first | exact HBX.out _ (Fr.refl _ _).drew | exact HBX.out _ hf1' | exact HBX.out _ hf2') (first | (go_at_call 26; refine (HCN.out _ HA.out.drew).mono ?_; rintro e w1 ⟨rfl, hf1⟩; (have hf1' : Fr (fun _ => False) w0 w1 := (Fr.refl _ _).drew.trans hf1 (fun _ _ h => h))) | (go_at_call 24; refine (HD.out _).mono ?_; rintro e w2 ⟨x, rfl, hx, hf2⟩; (have hf2' : Fr (fun _ => False) w0 w2 := hf1'.trans hf2 (fun _ _ h => h))))
  all_goals
    have HX : Hid (ShP (K : Int) (M : Int) x ∧ Fr (fun _ => False) w w2) := ⟨hx, HA.out.trans hf2' (fun _ _ h => h)⟩
    clear hx hf1 hf2 hf1' hf2'
    go_wp2_with fail
    all_goals (go_ret; exact ⟨_, rfl, HX.out⟩)

end Go.Proofs.YtnfmcdhllplgmaaDoor
