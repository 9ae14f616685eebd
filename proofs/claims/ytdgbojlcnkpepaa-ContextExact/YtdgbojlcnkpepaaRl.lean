/- The law's own 'row'. -/
import Derived.Test.YtdgbojlcnkpepaaRa
import Derived.Test.YtdgbojlcnkpepaaOv
namespace Go.Proofs.Ytdgbojlcnkpepaa
open Go.RowKit

set_option maxRecDepth 100000 in
set_option maxHeartbeats 4000000 in
theorem rlaw_lo (W H : Nat) (v : Value) (T : Int) (ao : Option Addr) (n ca : Nat) (bo : Option Addr) (m cb : Nat) (p : Value) (py : Int) (w : World) (hv : ∃ a b c, v = .slice a b c) (hy : py < 0) :
    Calls Try.prog 19 #[.agg #[.int .i64 W, .int .i64 H, v, .int .i64 T, .slice ao n ca, .slice bo m cb], .slice none 0 0, .int .i64 61, p, .int .i64 py] w fun e w' => e = .returned (.bool true) ∧ Fr (fun _ => False) w w' := by
  obtain ⟨a, b, c, rfl⟩ := hv
  have hd1 : decide (py < 0) = true := decide_eq_true hy
  clear hy
  go_enter Try.func19, Try.ntmps19
  go_wp2_with fail
  go_ret
  exact ⟨rfl, (Fr.refl _ _).alloc _⟩

set_option maxRecDepth 100000 in
set_option maxHeartbeats 4000000 in
theorem rlaw_hi (W H : Nat) (v : Value) (T : Int) (ao : Option Addr) (n ca : Nat) (bo : Option Addr) (m cb : Nat) (p : Value) (py : Int) (w : World) (hv : ∃ a b c, v = .slice a b c) (hy : (H : Int) ≤ py) :
    Calls Try.prog 19 #[.agg #[.int .i64 W, .int .i64 H, v, .int .i64 T, .slice ao n ca, .slice bo m cb], .slice none 0 0, .int .i64 61, p, .int .i64 py] w fun e w' => e = .returned (.bool true) ∧ Fr (fun _ => False) w w' := by
  obtain ⟨a, b, c, rfl⟩ := hv
  have hd1 : decide (py < 0) = false := decide_eq_false (by omega)
  have hd2 : decide ((H : Int) ≤ py) = true := decide_eq_true hy
  clear hy
  go_enter Try.func19, Try.ntmps19
  go_wp2_with fail
  go_ret
  exact ⟨rfl, (Fr.refl _ _).alloc _⟩

set_option maxRecDepth 100000 in
set_option maxHeartbeats 4000000 in
theorem rlaw_in (W H : Nat) (v : Value) (P : Nat → Nat → Bool) (T : Int) (ao : Option Addr) (n ca : Nat) (bo : Option Addr) (m cb : Nat) (t gp gl Y : Nat) (w : World) (hb : Bm w v W H P) (ht : t < 4) (hp : PlAt w gp t) (hl : IntRow w gl W (fun x => ctx (pixI W H P) t x Y)) (hy : Y < H) :
    Calls Try.prog 19 #[.agg #[.int .i64 W, .int .i64 H, v, .int .i64 T, .slice ao n ca, .slice bo m cb], .slice (some ⟨gl, 0, none⟩) W W, .int .i64 0, .slice (some ⟨gp, 0, none⟩) (2 * bitsK t 3) (2 * bitsK t 3), .int .i64 Y] w fun e w' => e = .returned (.bool true) ∧ Fr (fun _ => False) w w' := by
  obtain ⟨f1, f2, f3⟩ := size_facts hb.h1 hb.h2 hb.h3
  have HA : Hid (∀ (X : Nat) w', X < W → Fr (fun _ => False) w w' → Calls Try.prog 18 #[.agg #[.int .i64 W, .int .i64 H, v], .slice (some ⟨gp, 0, none⟩) (2 * bitsK t 3) (2 * bitsK t 3), .int .i64 X, .int .i64 Y] w' fun e w'' => e = .returned (.int .i64 (ctx (pixI W H P) t X Y : Nat)) ∧ Fr (fun _ => False) w' w'') := fun X w' hX hf => rat_any W H v P t gp _ X Y w' (hb.kept hf) ht (hp.kept hf (fun h => h)) (by omega) (by omega)
  have HL : Hid (∀ (X : Nat) w', X < W → Fr (fun _ => False) w w' → w'.cell? ⟨gl, X, none⟩ = some (.int .i64 (ctx (pixI W H P) t X Y : Nat))) := fun X w' hX hf => (hl.kept hf (fun h => h)).get hX
  have hd1 : decide ((Y : Int) < 0) = false := decide_eq_false (by omega)
  have hd2 : decide (H ≤ Y) = false := decide_eq_false (by omega)
  have hne : ((W : Int) != (W : Int)) = false := by simp
  obtain ⟨ao0, cap0, rfl, _, _⟩ := hb.seen
  generalize (render W H P).length = nn at *
  generalize 2 * bitsK t 3 = K2 at *
  have HBX : Hid (∀ w', Fr (fun _ => False) (w.alloc (.cells #[.int .i64 W, .int .i64 H, .slice ao0 nn cap0, .int .i64 T, .slice ao n ca, .slice bo m cb] 27)) w' → w'.cell? ⟨w.heap.size, 0, none⟩ = some (.int .i64 W) ∧ w'.cell? ⟨w.heap.size, 1, none⟩ = some (.int .i64 H) ∧ w'.cell? ⟨w.heap.size, 2, none⟩ = some (.slice ao0 nn cap0)) := fun w' hf => by
    obtain ⟨c0, c1, c2, _⟩ := cell_of_six (blkOld hf (heap_alloc_new w (.cells #[.int .i64 W, .int .i64 H, .slice ao0 nn cap0, .int .i64 T, .slice ao n ca, .slice bo m cb] 27)))
    exact ⟨c0, c1, c2⟩
  have HA0 : Hid (Fr (fun _ => False) w (w.alloc (.cells #[.int .i64 W, .int .i64 H, .slice ao0 nn cap0, .int .i64 T, .slice ao n ca, .slice bo m cb] 27))) := (Fr.refl _ _).alloc _
  clear hb ht hp hl hy f3
  go_enter Try.func19, Try.ntmps19
  go_wp2_with fail
  generalize w.alloc (.cells #[.int .i64 W, .int .i64 H, .slice ao0 nn cap0, .int .i64 T, .slice ao n ca, .slice bo m cb] 27) = w0 at *
  go_loopw [11] (fun i wr => ∃ X : Nat, X ≤ W ∧ i = .int .i64 X ∧ Fr (fun _ => False) w0 wr) (fun i _ => W - (intOf i).toNat)
  case atStart => exact ⟨0, Nat.zero_le _, rfl, Fr.refl _ _⟩
  case round =>
    obtain ⟨X, hX, rfl, hfr⟩ := hrel
    have HFr : Hid (Fr (fun _ => False) w0 wr) := hfr
    clear hfr
    by_cases hXW : X < W
    · have hdX : decide (X < W) = true := decide_eq_true hXW
      have HAt : Hid (∀ w', Fr (fun _ => False) wr w' → Calls Try.prog 18 #[.agg #[.int .i64 W, .int .i64 H, .slice ao0 nn cap0], .slice (some ⟨gp, 0, none⟩) K2 K2, .int .i64 X, .int .i64 Y] w' fun e w'' => e = .returned (.int .i64 (ctx (pixI W H P) t X Y : Nat)) ∧ Fr (fun _ => False) w' w'') := fun w' hf => HA.out X w' hXW (HA0.out.trans (HFr.out.trans hf (fun _ _ h => h)) (fun _ _ h => h))
      have HS : Hid (∀ w', Fr (fun _ => False) wr w' → (w'.cell? ⟨w.heap.size, 0, none⟩ = some (.int .i64 W) ∧ w'.cell? ⟨w.heap.size, 1, none⟩ = some (.int .i64 H) ∧ w'.cell? ⟨w.heap.size, 2, none⟩ = some (.slice ao0 nn cap0)) ∧ w'.cell? ⟨gl, X, none⟩ = some (.int .i64 (ctx (pixI W H P) t X Y : Nat))) := fun w' hf => by
        have h1 := HFr.out.trans hf (fun _ _ h => h)
        exact ⟨HBX.out _ h1, HL.out X _ hXW (HA0.out.trans h1 (fun _ _ h => h))⟩
      generalize ctx (pixI W H P) t X Y = cv0 at *
      have hne1 : ((cv0 : Int) != (cv0 : Int)) = false := by simp
      have hx1 : (0 : Int) ≤ (X : Int) := by omega
      have hx2 : (X : Int) < (W : Int) := by omega
      go_wp2_with fail
      obtain ⟨⟨c0, c1, c2⟩, d0⟩ := HS.out wr (Fr.refl _ _)
      go_region_held3 (fun w' => w'.cell? ⟨w.heap.size, 0, none⟩ = some (.int .i64 W) ∧ w'.cell? ⟨w.heap.size, 1, none⟩ = some (.int .i64 H) ∧ w'.cell? ⟨w.heap.size, 2, none⟩ = some (.slice ao0 nn cap0) ∧ w'.cell? ⟨gl, X, none⟩ = some (.int .i64 (cv0 : Nat))) (exact (fun h => ⟨h.1.1, h.1.2.1, h.1.2.2, h.2⟩) (HS.out _ (by repeat (first | with_reducible exact Fr.refl _ _ | with_reducible refine Fr.drew ?_ | with_reducible refine Fr.trans ?_ hf7 (fun _ _ hh => hh))))) (first | (go_at_call 18; refine (HAt.out _ (by first | exact (Fr.refl _ _).drew | exact Fr.refl _ _)).mono ?_; rintro e w7 ⟨rfl, hf7⟩))
      all_goals go_wp2_with fail
      all_goals go_roundw
      all_goals first
        | exact ⟨X + 1, by omega, congrArg (Value.int .i64) (by omega), HFr.out.trans ((Fr.refl (fun _ => False) wr).drew.trans hf7 (fun _ _ hh => hh)) (fun _ _ hh => hh)⟩
        | (simp [intOf]; omega)
    · obtain rfl : W = X := by omega
      have hdX : decide (W < W) = false := decide_eq_false (by omega)
      go_wp2_with fail
      go_ret
      exact ⟨rfl, HA0.out.trans HFr.out (fun _ _ h => h)⟩

end Go.Proofs.Ytdgbojlcnkpepaa
