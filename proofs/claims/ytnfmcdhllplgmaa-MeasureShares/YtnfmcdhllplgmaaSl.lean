/- The law 'MeasureShares'. -/
import Derived.Test.YtnfmcdhllplgmaaSh
import Derived.Test.YtnfmcdhllplgmaaOp
import Derived.Deep.LoopGhost
namespace Go.Proofs.Ytnfmcdhllplgmaa
open Go.RowKit Ieee

set_option maxRecDepth 100000 in
set_option maxHeartbeats 2000000 in
theorem shares_any (ao : Option Addr) (n cap : Nat) (F G : Nat → Int) (w : World) (hn : n ≤ 9223372036854775807) (hv : PairsAt w ao n F G) :
    Calls Try.prog 3 #[.slice ao n cap] w fun e w' => e = .returned (.bool true) ∧ Fr (fun _ => False) w w' := by
  have HC : Hid (∀ w', Fr (fun _ => False) w w' → PairsAt w' ao n F G) := fun w' f => hv.kept f
  clear hv
  go_enter Try.func3, Try.ntmps3
  go_wp2_with fail
  go_loopg [3, 4, 5, 6, 7] 101 (fun q i _ _ _ _ wr => ∃ j : Nat, j + q = 101 ∧ i = .int .i64 (j : Int) ∧ Fr (fun _ => False) w wr)
  case atStart => exact ⟨0, by omega, rfl, Fr.refl _ _⟩
  case round =>
    obtain ⟨j, hjq, rfl, hfr⟩ := hrel
    have HFr : Hid (Fr (fun _ => False) w wr) := hfr
    have HP := HC.out _ hfr
    clear hfr
    by_cases h1 : j < n
    · have d1 : decide (j < n) = true := decide_eq_true h1
      by_cases h2 : j < 100
      · have d2 : decide ((j : Int) < 100) = true := decide_eq_true (by omega)
        obtain ⟨b, off, rfl, hc⟩ := HP (by omega)
        obtain ⟨c0, c1⟩ := hc j h1
        have HK : Hid (∀ w', Fr (fun _ => False) w w' → w'.cell? ⟨b, off + j * 2, none⟩ = some (.int .i64 (F j)) ∧ w'.cell? ⟨b, off + j * 2 + 1, none⟩ = some (.int .i64 (G j))) := fun w' f => by
          obtain ⟨b', off', e', hc'⟩ := HC.out w' f (by omega)
          simp only [Option.some.injEq, Addr.mk.injEq, and_true] at e'
          obtain ⟨rfl, rfl⟩ := e'
          exact hc' j h1
        clear hc HP
        generalize F j = N at *
        generalize G j = D at *
        cases he : exB N && exB D
        · have hb : exB N = false ∨ exB D = false := by cases h : exB N; (exact Or.inl rfl); (rw [h] at he; exact Or.inr he)
          have HB : Hid (exB N = false ∨ exB D = false) := hb
          clear he hb
          go_wp2_with fail
          go_region_held3 (fun w' => w'.cell? ⟨b, off + j * 2, none⟩ = some (.int .i64 N) ∧ w'.cell? ⟨b, off + j * 2 + 1, none⟩ = some (.int .i64 D)) (first | exact HK.out _ HFr.out.drew | exact HK.out _ (HFr.out.drew.trans hf1 (fun _ _ h => h))) (first | (go_at_call 8; refine (share_bad N D HB.out _).mono ?_; rintro e w1 ⟨rfl, hf1⟩))
          have HF1 : Hid (Fr (fun _ => False) w w1) := HFr.out.drew.trans hf1 (fun _ _ h => h)
          clear hf1 c0 c1
          obtain ⟨c0, c1⟩ := HK.out _ HF1.out
          go_wp2_with fail
          go_region_held3 (fun w' => w'.cell? ⟨b, off + j * 2, none⟩ = some (.int .i64 N) ∧ w'.cell? ⟨b, off + j * 2 + 1, none⟩ = some (.int .i64 D)) (first | exact HK.out _ HF1.out.drew | exact HK.out _ (HF1.out.drew.trans hf2 (fun _ _ h => h))) (first | (go_at_call 9; refine (rshare_bad N D HB.out _).mono ?_; rintro e w2 ⟨rfl, hf2⟩))
          have HF2 : Hid (Fr (fun _ => False) w w2) := HF1.out.drew.trans hf2 (fun _ _ h => h)
          clear hf2 c0 c1
          go_wp2_with fail
          refine (same_any 0 0 _).mono ?_
          rintro e w3 ⟨rfl, rfl⟩
          rw [sameB_self]
          go_wp2_with fail
          go_roundg (101 - (j + 1))
          case measure => omega
          case rel => exact ⟨j + 1, by omega, congrArg (Value.int .i64) (by omega), HF2.out⟩
        · have hb : exB N = true ∧ exB D = true := by simpa using he
          have HB : Hid (exB N = true ∧ exB D = true) := hb
          clear he hb
          go_wp2_with fail
          go_region_held3 (fun w' => w'.cell? ⟨b, off + j * 2, none⟩ = some (.int .i64 N) ∧ w'.cell? ⟨b, off + j * 2 + 1, none⟩ = some (.int .i64 D)) (first | exact HK.out _ HFr.out.drew | exact HK.out _ (HFr.out.drew.trans hf1 (fun _ _ h => h))) (first | (go_at_call 8; refine (share_ok N D HB.out.1 HB.out.2 _).mono ?_; rintro e w1 ⟨x, rfl, hx, hf1⟩))
          have HF1 : Hid (Fr (fun _ => False) w w1) := HFr.out.drew.trans hf1 (fun _ _ h => h)
          have HX : Hid (ShP N D x) := hx
          clear hf1 c0 c1 hx
          obtain ⟨c0, c1⟩ := HK.out _ HF1.out
          go_wp2_with fail
          go_region_held3 (fun w' => w'.cell? ⟨b, off + j * 2, none⟩ = some (.int .i64 N) ∧ w'.cell? ⟨b, off + j * 2 + 1, none⟩ = some (.int .i64 D)) (first | exact HK.out _ HF1.out.drew | exact HK.out _ (HF1.out.drew.trans hf2 (fun _ _ h => h))) (first | (go_at_call 9; refine (rshare_ok N D HB.out.1 HB.out.2 _).mono ?_; rintro e w2 ⟨y, rfl, hy, hf2⟩))
          have HF2 : Hid (Fr (fun _ => False) w w2) := HF1.out.drew.trans hf2 (fun _ _ h => h)
          have hs : sameB x y = true := HX.out.same hy
          clear hf2 c0 c1 hy
          go_wp2_with fail
          refine (same_any x y _).mono ?_
          rintro e w3 ⟨rfl, rfl⟩
          rw [hs]
          go_wp2_with fail
          go_roundg (101 - (j + 1))
          case measure => omega
          case rel => exact ⟨j + 1, by omega, congrArg (Value.int .i64) (by omega), HF2.out⟩
      · have d2 : decide ((j : Int) < 100) = false := decide_eq_false (by omega)
        clear HP
        go_wp2_with fail
        refine (wakes_any _).mono ?_
        rintro e w1 ⟨rfl, hf1⟩
        have HF1 : Hid (Fr (fun _ => False) w w1) := HFr.out.trans hf1 (fun _ _ h => h)
        clear hf1
        go_wp2_with fail
        all_goals (go_ret; exact ⟨rfl, HF1.out⟩)
    · have d1 : decide (j < n) = false := decide_eq_false h1
      clear HP
      go_wp2_with fail
      refine (wakes_any _).mono ?_
      rintro e w1 ⟨rfl, hf1⟩
      have HF1 : Hid (Fr (fun _ => False) w w1) := HFr.out.trans hf1 (fun _ _ h => h)
      clear hf1
      go_wp2_with fail
      all_goals (go_ret; exact ⟨rfl, HF1.out⟩)
end Go.Proofs.Ytnfmcdhllplgmaa
